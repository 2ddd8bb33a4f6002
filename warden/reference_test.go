package warden_test

import (
	"fmt"
	"slices"
	"strings"
	"testing"

	"confluence/api"
	"confluence/config"
	"confluence/warden"
)

// plain is a second warden: it keeps all commands that were taken and all entries that ever went out, and looks at all of them anew each time.
type plain struct {
	// states has New's configuration, and then the one behind each command.
	states  []config.State
	cmds    []api.Cmd
	entries []*letter
	mail    []api.Mail
}

// letter is an entry: of which command it is, and what was said to it.
type letter struct {
	number  int
	n       uint64
	hearers []int
	asked   []int
	acks    map[int]uint64
	word    bool
	floor   bool
}

func plainOver(s config.State) *plain { return &plain{states: []config.State{own(s)}} }

// open tells whether a letter's Acks aren't all there.
func (l *letter) open() bool {
	for _, dc := range l.asked {
		if _, there := l.acks[dc]; !there {
			return true
		}
	}
	return false
}

// closes tells whether it is the last letter of its command.
func (p *plain) closes(l *letter) bool { return l.n == 2 || p.cmds[l.number].Kind > 2 }

// through is how many commands were brought through: their last letters are all answered.
func (p *plain) through() int {
	count := 0
	for _, l := range p.entries {
		if p.closes(l) && !l.open() {
			count++
		}
	}
	return count
}

func (p *plain) ask(c api.Cmd) (int, api.Errno) {
	if len(p.cmds)-p.through() == 8 {
		return 0, api.ErrFull
	}
	next, e := config.Apply(p.states[len(p.states)-1], c)
	if e != api.OK {
		return 0, e
	}
	p.states, p.cmds = append(p.states, next), append(p.cmds, config.Plain(c))
	p.settle()
	return len(p.cmds) - 1, api.OK
}

// last is the last letter, if its command is under way still.
func (p *plain) last() *letter {
	if len(p.entries) == 0 || p.entries[len(p.entries)-1].number < p.through() {
		return nil
	}
	return p.entries[len(p.entries)-1]
}

func (p *plain) take(dc int, m api.Msg) {
	l := p.last()
	if l == nil || m.Id != uint64(len(p.entries)) {
		return
	}
	c := p.cmds[l.number]
	switch {
	case m.Kind == 23 && slices.Contains(l.asked, dc):
		if _, there := l.acks[dc]; !there {
			l.acks[dc] = m.TS
		}
	case m.Kind == 24 && c.Kind == 1 && dc == c.DC && l.n == 1 && !l.open():
		l.word = true
	case m.Kind == 25 && c.Kind == 2 && dc == c.DC && l.n == 1:
		l.word = true
	}
	p.settle()
}

// settle sends what has to go, one after the other, till nothing has to.
func (p *plain) settle() {
	for {
		done, l := p.through(), p.last()
		switch {
		case done == len(p.cmds):
			return
		case l == nil:
			p.send(done, 1, membersOf(p.states[done]))
		case l.open():
			return
		case p.cmds[done].Kind == 1 && !l.floor:
			l.floor = true
			p.mail = append(p.mail, floor(p.cmds[done].DC, uint64(len(p.entries)), greatest(l.acks)))
		case !l.word:
			return
		default:
			p.send(done, 2, l.hearers)
		}
	}
}

func greatest(acks map[int]uint64) uint64 {
	most := uint64(0)
	for _, at := range acks {
		if at > most {
			most = at
		}
	}
	return most
}

func (p *plain) send(number int, n uint64, asked []int) {
	now, then, c := p.states[number], p.states[number+1], p.cmds[number]
	l := &letter{number: number, n: n, hearers: unionOf(now, then), asked: asked, acks: map[int]uint64{}}
	p.entries = append(p.entries, l)
	said := then
	if c.Kind == 2 && n == 1 {
		said = now
	}
	p.mail = append(p.mail, entries(uint64(len(p.entries)), n, c, said, l.hearers...)...)
}

func (p *plain) out() []api.Mail {
	l := p.mail
	p.mail = nil
	return l
}

func (p *plain) view() view {
	done := p.through()
	now, then := p.states[done], p.states[done]
	if done < len(p.cmds) {
		then = p.states[done+1]
	}
	return view{done, len(p.cmds) - done, now, p.states[len(p.states)-1], narrowed(now, then)}
}

// mostly is a number from 0 on and below a bound; now and then any other one.
func mostly(n *numbers, bound int) int {
	if n.below(25) == 0 {
		return one(n, ints())
	}
	return n.below(bound)
}

func someKeys() []string {
	return []string{"", "\x00", "a", "b", "c", "d", "e", "f", "g", "h", "k", "m", "p", "t", "z", "\xff", strings.Repeat("\xff", 16), strings.Repeat("m", 17)}
}

// anyCmd is mostly one that may be done over a configuration.
func anyCmd(n *numbers, s config.State) api.Cmd {
	c, tries := api.Cmd{}, 1+n.below(2)*5
	for range tries {
		c = api.Cmd{Kind: one(n, []int{1, 1, 2, 2, 3, 3, 4, 4, 5, 5, 5, 6, 6}), DC: mostly(n, 4), Shard: mostly(n, 3), Node: mostly(n, 5), Mode: mostly(n, 4), Key: one(n, someKeys())}
		if n.below(40) == 0 {
			c.Kind = one(n, ints())
		}
		if _, e := config.Apply(s, c); e == api.OK {
			break
		}
	}
	return c
}

// anyAnswer is mostly an Ack, a Caught or a Drained of an epoch; now and then something else.
func anyAnswer(n *numbers, epoch uint64) api.Msg {
	m := api.Msg{Kind: one(n, []int{23, 23, 23, 23, 24, 25}), Id: epoch, TS: uint64(n.below(1000))}
	switch n.below(15) {
	case 0:
		m.Kind = one(n, []int{0, 1, 20, 21, 22, 26, 27, -23, 23 + 256, lowest, highest})
	case 1:
		m.Id = one(n, []uint64{0, epoch - 1, epoch + 1, epoch - 2, epoch + 1<<32, latest, -epoch, uint64(n.below(20))})
	case 2:
		m.TS = one(n, moments())
	case 3:
		m = filled(m)
	}
	return m
}

// walker goes with a warden and a plain one from call to call.
type walker struct {
	*scene
	p     *plain
	count map[string]int
}

func newWalker(t *testing.T, s config.State, count map[string]int) *walker {
	return &walker{scene: over(t, s), p: plainOver(s), count: count}
}

func (w *walker) wantAsk(c api.Cmd) {
	w.Helper()
	number, e := w.p.ask(c)
	w.ask(c, number, e)
	w.count[fmt.Sprint("Ask ", int(e))]++
	w.wantView(w.p.view())
}

// wantTake hands in a message, and counts what it was and whether it made a difference.
func (w *walker) wantTake(dc int, m api.Msg) {
	w.Helper()
	was, mails, answers := w.p.through(), len(w.p.mail), w.answers()
	w.p.take(dc, m)
	w.take(dc, m)
	counts := was != w.p.through() || mails != len(w.p.mail) || answers != w.answers()
	w.count[fmt.Sprintf("Take %d %t", m.Kind, counts)]++
	if was != w.p.through() {
		w.count[fmt.Sprintf("through %d", w.p.cmds[was].Kind)]++
	}
	w.wantView(w.p.view())
}

// answers is how many the last letter had.
func (w *walker) answers() int {
	l := w.p.last()
	switch {
	case l == nil:
		return 0
	case l.word:
		return len(l.acks) + 1
	}
	return len(l.acks)
}

func (w *walker) wantOut() {
	w.Helper()
	w.out(w.p.out()...)
	w.wantView(w.p.view())
}

// anyStep makes any call of both.
func (w *walker) anyStep(n *numbers) {
	w.Helper()
	switch n.below(12) {
	case 0, 1:
		w.wantAsk(anyCmd(n, w.p.states[len(w.p.states)-1]))
	case 2:
		w.wantOut()
	default:
		w.wantTake(w.anyGate(n), anyAnswer(n, uint64(len(w.p.entries))))
	}
}

// anyGate is mostly one that is waited for.
func (w *walker) anyGate(n *numbers) int {
	if l := w.p.last(); l != nil && n.below(4) > 0 {
		return one(n, append(slices.Clone(l.asked), w.p.cmds[l.number].DC))
	}
	return mostly(n, 4)
}

// anyBeginning is mostly what Start answers, now and then any other configuration.
func anyBeginning(t *testing.T, n *numbers) config.State {
	if n.below(5) == 0 {
		return one(n, append(strangeStates(), base()))
	}
	pool := 1 + n.below(4)
	return started(t, pool, 1+n.below(pool), 1+n.below(4))
}

func TestLongRunsOfCalls(t *testing.T) {
	n, count := numbers(193), map[string]int{}
	for range 1000 {
		w := newWalker(t, anyBeginning(t, &n), count)
		for range 200 {
			w.anyStep(&n)
			if t.Failed() {
				return
			}
		}
		w.wantOut()
	}
	for _, what := range []string{"Ask 0", "Ask 1", "Ask 5", "Ask 7", "Ask 8", "Ask 9", "Ask 12", "Ask 13", "Ask 14", "Ask 15", "Take 23 true", "Take 23 false", "Take 24 true", "Take 24 false", "Take 25 true", "Take 25 false", "Take 21 false", "through 1", "through 2", "through 3", "through 4", "through 5", "through 6"} {
		if count[what] < 50 {
			t.Errorf("P19.1: in long runs few calls were as %s: %v", what, count)
		}
	}
}

// One warden that goes on for long.
func TestOneVeryLongRun(t *testing.T) {
	n, w := numbers(194), newWalker(t, started(t, 4, 2, 3), map[string]int{})
	for range 30000 {
		w.anyStep(&n)
		if t.Failed() {
			return
		}
	}
	if is := w.w.Acked(); is < 500 {
		t.Errorf("P19.1: in a very long run but %d commands are brought through", is)
	}
}

// Answers that come in any order, again and again, and late: what was ever said comes back at any time.
func TestLongRunsWithAnswersAgainAndLate(t *testing.T) {
	n, count := numbers(195), map[string]int{}
	type said struct {
		dc int
		m  api.Msg
	}
	for range 150 {
		w := newWalker(t, anyBeginning(t, &n), count)
		var late []said
		for range 250 {
			switch n.below(7) {
			case 0:
				w.wantAsk(anyCmd(&n, w.p.states[len(w.p.states)-1]))
			case 1, 2:
				if len(late) > 0 {
					again := one(&n, late)
					w.wantTake(again.dc, again.m)
				}
			case 3:
				w.wantOut()
			default:
				next := said{w.anyGate(&n), anyAnswer(&n, uint64(len(w.p.entries)))}
				late = append(late, next)
				if n.below(3) > 0 {
					w.wantTake(next.dc, next.m)
				}
			}
			if t.Failed() {
				return
			}
		}
	}
	if count["Take 23 true"] < 1000 || count["Take 24 true"] < 100 || count["Take 25 true"] < 100 {
		t.Errorf("P19.1: in runs with late answers few counted: %v", count)
	}
}

// step is one of few calls of which all short rows are tried.
type step struct {
	dc  int
	m   api.Msg
	cmd api.Cmd
}

func (w *walker) wantStep(l step) {
	w.Helper()
	if l.cmd.Kind != 0 {
		w.wantAsk(l.cmd)
		return
	}
	w.wantTake(l.dc, l.m)
}

// fewSteps are what two or three gates may say to the first entries.
func fewSteps() []step {
	return []step{
		{0, ack(1, 4), api.Cmd{}}, {1, ack(1, 7), api.Cmd{}}, {2, ack(1, 9), api.Cmd{}},
		{0, ack(2, 5), api.Cmd{}}, {1, ack(2, 8), api.Cmd{}}, {2, ack(2, 3), api.Cmd{}},
		{1, drained(1), api.Cmd{}}, {2, caught(1), api.Cmd{}}, {1, drained(2), api.Cmd{}}, {2, caught(2), api.Cmd{}},
	}
}

// All rows of four of them, behind each of some commands, and behind the members' Acks.
func TestAllShortRowsOfCalls(t *testing.T) {
	l := fewSteps()
	acks := []step{{dc: 0, m: ack(1, 2)}, {dc: 1, m: ack(1, 6)}}
	for _, ahead := range [][]step{{{cmd: adding(2)}}, {{cmd: removing(1)}}, {{cmd: adding(2)}, acks[0], acks[1]}, {{cmd: removing(1)}, acks[1], acks[0]}, {{cmd: removing(1)}, acks[0]}, {{cmd: moving(0, 0, 1)}, {cmd: adding(2)}}, {{cmd: moving(0, 0, 1)}, {cmd: removing(1)}}} {
		for i := range len(l) * len(l) * len(l) * len(l) {
			w := newWalker(t, calm(0, 1), map[string]int{})
			for _, first := range ahead {
				w.wantStep(first)
			}
			for k, left := i, 4; left > 0; k, left = k/len(l), left-1 {
				w.wantStep(l[k%len(l)])
			}
			w.wantOut()
			if t.Failed() {
				return
			}
		}
	}
}

// Whatever is said or asked in rows of four, with commands in between.
func TestAllShortRowsWithCommands(t *testing.T) {
	l := append(fewSteps()[:8], step{cmd: adding(2)}, step{cmd: removing(1)}, step{cmd: switching(0, 0, 3)})
	for i := range len(l) * len(l) * len(l) * len(l) {
		w := newWalker(t, calm(0, 1), map[string]int{})
		for k, left := i, 4; left > 0; k, left = k/len(l), left-1 {
			w.wantStep(l[k%len(l)])
		}
		w.wantOut()
		if t.Failed() {
			return
		}
	}
}

// Wardens are apart: what is done with one is of no matter to another one.
func TestWardensAreApart(t *testing.T) {
	n := numbers(196)
	for range 40 {
		first := started(t, 4, 2, 2)
		w, other, still := newWalker(t, first, map[string]int{}), newWalker(t, first, map[string]int{}), warden.New(first)
		w.promise, other.promise = "R2", "R2"
		for range 100 {
			w.anyStep(&n)
			other.wantView(other.p.view())
			other.anyStep(&n)
			w.wantView(w.p.view())
		}
		w.wantOut()
		other.wantOut()
		if !viewOf(still).is(view{0, 0, first, first, first.Modes}) || len(still.Out()) > 0 {
			t.Errorf("R2: with others changed a new warden answers %s", viewOf(still))
		}
		if t.Failed() {
			return
		}
	}
}
