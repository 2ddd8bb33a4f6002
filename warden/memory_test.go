package warden_test

import (
	"fmt"
	"runtime"
	"slices"
	"strings"
	"testing"

	"confluence/api"
	"confluence/config"
	"confluence/warden"
)

// room is the memory that the lists of a configuration's maps are pieces of.
type room struct {
	cuts  [4][]string
	nodes [4][]int
}

// inRoom is a configuration whose lists stand in the midst of others, with spare room behind them.
func inRoom(s config.State) (config.State, *room) {
	r := &room{}
	for dc, m := range s.Maps {
		for i := range 3 {
			r.cuts[dc] = append(r.cuts[dc], fmt.Sprint("ahead of the cuts ", dc, i))
			r.nodes[dc] = append(r.nodes[dc], -100*dc-i)
		}
		r.cuts[dc] = append(r.cuts[dc], m.Cuts...)
		r.nodes[dc] = append(r.nodes[dc], m.Nodes...)
		for i := range 6 {
			r.cuts[dc] = append(r.cuts[dc], fmt.Sprint("behind the cuts ", dc, i))
			r.nodes[dc] = append(r.nodes[dc], 100*dc+i)
		}
		s.Maps[dc] = api.Map{Cuts: r.cuts[dc][3 : 3+len(m.Cuts)], Nodes: r.nodes[dc][3 : 3+len(m.Nodes)]}
	}
	return s, r
}

// wantAs wants that a room is as it was made of a configuration.
func (r *room) wantAs(t *testing.T, what string, s config.State) {
	t.Helper()
	_, was := inRoom(s)
	for dc := range 4 {
		if !slices.Equal(r.cuts[dc], was.cuts[dc]) || !slices.Equal(r.nodes[dc], was.nodes[dc]) {
			t.Errorf("R3: behind %s the map %d that was handed in, with what is around it, is %.30q %v", what, dc, r.cuts[dc], r.nodes[dc])
		}
	}
}

func (r *room) spoil() {
	for dc := range 4 {
		spoilList(r.cuts[dc], "spoilt")
		spoilList(r.nodes[dc], -9)
	}
}

// spoilList overwrites a list with its spare room.
func spoilList[E any](l []E, with E) {
	for i := range l[:cap(l)] {
		l[:cap(l)][i] = with
	}
}

// spoilState overwrites the lists of a configuration.
func spoilState(s config.State) {
	for _, m := range s.Maps {
		spoilList(m.Cuts, "spoilt")
		spoilList(m.Nodes, -9)
	}
}

// spoilMail overwrites mail, and the numbers of its messages first.
func spoilMail(l []api.Mail) {
	for _, m := range l {
		spoilList(m.Msg.Vec, 99)
		spoilList(m.Msg.Vers, api.Ver{Key: "spoilt"})
	}
	spoilList(l, api.Mail{To: 99, Msg: api.Msg{Kind: 99, Cmd: adding(9)}})
}

// roomy are configurations with maps of one shard, of many and of none.
func roomy() []config.State {
	l := strangeStates()
	for shards := 1; shards <= 8; shards++ {
		s := calm(0, 1, 3)
		for dc := range 4 {
			s.Maps[dc] = lettered(1+(shards+dc)%8, 1+dc)
		}
		l = append(l, s)
	}
	return l
}

// lived asks a warden for commands, and answers it, in any order.
func lived(n *numbers, w *warden.Warden, calls int) {
	for range calls {
		if n.below(5) == 0 {
			w.Ask(anyCmd(n, w.Tail()))
		}
		w.Take(n.below(4), anyAnswer(n, uint64(n.below(12))))
		w.Out()
	}
}

// New's configuration stays, with its spare room, whatever becomes of the warden.
func TestTheConfigurationThatIsHandedInStays(t *testing.T) {
	for i, was := range roomy() {
		n := numbers(220 + i)
		s, r := inRoom(was)
		w, other := warden.New(s), warden.New(s)
		r.wantAs(t, "New", was)
		lived(&n, w, 150)
		spoilState(w.Now())
		spoilState(other.Tail())
		spoilState(other.Now())
		r.wantAs(t, "other calls", was)
		if !same(s, was) {
			t.Errorf("R3: what was handed in to New is %s, not %s", told(s), told(was))
		}
	}
}

// With New's configuration changed behind it the warden goes on as it was.
func TestTheConfigurationThatIsHandedInIsNotKept(t *testing.T) {
	for i, was := range roomy() {
		n := numbers(240 + i)
		s, r := inRoom(was)
		w := newWalker(t, was, map[string]int{})
		w.promise = "R3"
		w.w = warden.New(s)
		r.spoil()
		for dc := range 4 {
			s.Members[dc] = !s.Members[dc]
		}
		w.wantView(w.p.view())
		for range 60 {
			w.anyStep(&n)
		}
		w.wantOut()
		if t.Failed() {
			return
		}
	}
}

// What Now and Tail answer is new memory each time: changed, it changes nothing of the warden, and nothing of another answer.
func TestNowAndTailAreNewMemory(t *testing.T) {
	n := numbers(261)
	for _, was := range roomy() {
		w := newWalker(t, was, map[string]int{})
		w.promise = "R3"
		for range 40 {
			w.anyStep(&n)
			now, tail := w.w.Now(), w.w.Tail()
			ownNow, ownTail := own(now), own(tail)
			others := []config.State{w.w.Now(), w.w.Tail()}
			for dc := range 4 {
				for _, m := range []api.Map{others[0].Maps[dc], others[1].Maps[dc]} {
					_ = append(append(m.Cuts, "more"), "than there is")
					_ = append(append(m.Nodes, 5), 6)
				}
			}
			spoilState(others[0])
			if !same(now, ownNow) || !same(tail, ownTail) || !same(others[1], ownTail) {
				w.wrong("with one answer of Now changed, others are %s, %s and %s", told(now), told(tail), told(others[1]))
			}
			spoilState(others[1])
			if !same(now, ownNow) || !same(tail, ownTail) {
				w.wrong("with one answer of Tail changed, others are %s and %s", told(now), told(tail))
			}
			w.wantView(w.p.view())
		}
		w.wantOut()
		if t.Failed() {
			return
		}
	}
}

// No two maps of an answer share memory, also where those that were handed in do.
func TestMapsOfAnAnswerAreApart(t *testing.T) {
	shared := lettered(4, 3)
	first := calm(0, 1, 2, 3)
	for dc := range 4 {
		first.Maps[dc] = shared
	}
	w := warden.New(first)
	w.Ask(moving(2, 0, 2))
	for _, answer := range []func() config.State{w.Now, w.Tail} {
		want := own(answer())
		for dc := range 4 {
			got := answer()
			spoilList(got.Maps[dc].Cuts, "spoilt")
			spoilList(got.Maps[dc].Nodes, -9)
			for other := range 4 {
				if other != dc && !sameMap(got.Maps[other], want.Maps[other]) {
					t.Errorf("R3: with the map %d changed the map %d is %q %v", dc, other, got.Maps[other].Cuts, got.Maps[other].Nodes)
				}
			}
		}
	}
}

// Out's mail is new memory: each message's numbers are its own, and what becomes of them, and of the list, changes nothing that comes later.
func TestMailIsNewMemory(t *testing.T) {
	n := numbers(262)
	for range 60 {
		w := newWalker(t, anyBeginning(t, &n), map[string]int{})
		w.promise = "R3"
		for range 100 {
			w.anyStep(&n)
			got, want := w.w.Out(), w.p.out()
			if !slices.EqualFunc(got, want, sameMail) {
				w.wrong("Out answers %s; not %s", tellMail(got), tellMail(want))
			}
			for i := range got {
				_ = append(append(got[i].Msg.Vec, 7), 8)
				spoilList(got[i].Msg.Vec, 99)
				if !slices.EqualFunc(got[i+1:], want[i+1:], sameMail) {
					w.wrong("with the numbers of one message changed, the others are %s; not %s", tellMail(got[i+1:]), tellMail(want[i+1:]))
				}
			}
			_ = append(append(got, api.Mail{To: 50}), api.Mail{To: 51})
			spoilMail(got)
			w.wantView(w.p.view())
		}
		if t.Failed() {
			return
		}
	}
}

// What went out stays, whatever becomes of the warden.
func TestWhatWentOutStays(t *testing.T) {
	n := numbers(263)
	for range 60 {
		w := newWalker(t, anyBeginning(t, &n), map[string]int{})
		w.promise = "R3"
		var all, want [][]api.Mail
		for range 100 {
			w.anyStep(&n)
			all, want = append(all, w.w.Out()), append(want, w.p.out())
		}
		for i, l := range all {
			if !slices.EqualFunc(l, want[i], sameMail) {
				w.wrong("what went out is %s; not %s", tellMail(l), tellMail(want[i]))
			}
		}
		if t.Failed() {
			return
		}
	}
}

// A message that is handed in stays, with what is around its lists, and isn't kept.
func TestMessagesThatAreHandedInStay(t *testing.T) {
	for _, l := range stages() {
		s := l.at(t)
		vec, vers := []uint64{1, 2, 3, 4, 5, 6}, []api.Ver{{Key: "a"}, {Key: "b"}, {Key: "c"}, {Key: "d"}}
		for dc := range 4 {
			for _, kind := range []int{23, 24, 25, 21} {
				m := api.Msg{Kind: kind, Id: l.epoch, TS: 4, Vec: vec[1:4], Vers: vers[1:2]}
				s.take(dc, m)
			}
		}
		if !slices.Equal(vec, []uint64{1, 2, 3, 4, 5, 6}) || !slices.Equal(vers, []api.Ver{{Key: "a"}, {Key: "b"}, {Key: "c"}, {Key: "d"}}) {
			s.wrong("R3: what was handed in is %v %v", vec, vers)
		}
		want := tellMail(s.w.Out())
		other := l.at(t)
		for dc := range 4 {
			for _, kind := range []int{23, 24, 25, 21} {
				m := api.Msg{Kind: kind, Id: l.epoch, TS: 4, Vec: vec[1:4], Vers: vers[1:2]}
				other.take(dc, m)
				clear(vec)
				clear(vers)
			}
		}
		if got := tellMail(other.w.Out()); got != want {
			other.wrong("R3: with what was handed in changed behind it Out answers %s; not %s", got, want)
		}
	}
}

// Behind each call that is refused, and each message that doesn't count, all is as it was: what is told, and what is answered by each call that comes next.
func TestErrorsChangeNothing(t *testing.T) {
	tried := 0
	for _, l := range stages() {
		cmds := append(strangeCmds(), l.cmd)
		for i := range cmds {
			// Not all of them of each stage, to be done in time.
			if (i+len(l.name))%23 != 0 && i != len(cmds)-1 {
				continue
			}
			s := l.at(t)
			s.promise = "R6"
			was := viewOf(s.w)
			if _, e := s.w.Ask(cmds[i]); e == api.OK {
				continue
			}
			tried++
			s.wantView(was)
			s.out()
			other, next := l.at(t), moving(0, 0, 2)
			number, e := other.w.Ask(next)
			s.ask(next, number, e)
			s.through(l.cmd, 1, []int{0, 1, 2}, 0, 1, 2, 3)
			other.through(l.cmd, 1, []int{0, 1, 2}, 0, 1, 2, 3)
			s.wantView(viewOf(other.w))
			s.out(other.w.Out()...)
		}
	}
	if tried < 500 {
		t.Errorf("R6: but %d commands were refused", tried)
	}
}

// The same calls answer the same again, whether a warden is asked in between or not.
func TestTheSameCallsAnswerTheSame(t *testing.T) {
	for seed := range numbers(30) {
		n, again := 264+seed, 264+seed
		first := anyBeginning(t, &n)
		anyBeginning(t, &again)
		asked, silent := watch(t, first), watch(t, first)
		var mail []api.Mail
		for range 200 {
			c, dc, m := anyCmd(&n, calm(0, 1, 2)), n.below(4), anyAnswer(&n, uint64(n.below(15)))
			asked.ask(c)
			asked.take(dc, m)
			viewOf(asked.w)
		}
		for range 200 {
			c, dc, m := anyCmd(&again, calm(0, 1, 2)), again.below(4), anyAnswer(&again, uint64(again.below(15)))
			silent.w.Ask(c)
			silent.w.Take(dc, m)
		}
		mail = silent.w.Out()
		if !viewOf(asked.w).is(viewOf(silent.w)) || !slices.EqualFunc(asked.mail, mail, sameMail) {
			t.Fatalf("R2: the same calls lead to %s and to %s; the mail is %s, and %s", viewOf(asked.w), viewOf(silent.w), tellMail(asked.mail), tellMail(mail))
		}
	}
}

// A list of no elements means the same, nil or not.
func TestNilAndEmptyLists(t *testing.T) {
	for i, was := range strangeStates() {
		empty := own(was)
		for dc := range 4 {
			empty.Maps[dc].Cuts = append([]string{}, empty.Maps[dc].Cuts...)
			empty.Maps[dc].Nodes = append([]int{}, empty.Maps[dc].Nodes...)
		}
		n := numbers(300 + i)
		w := newWalker(t, was, map[string]int{})
		w.promise, w.w = "R4", warden.New(empty)
		for range 60 {
			w.anyStep(&n)
		}
	}
}

// heap is how many bytes are in use.
func heap() uint64 {
	runtime.GC()
	var m runtime.MemStats
	runtime.ReadMemStats(&m)
	return m.HeapAlloc
}

// wantLittleKept wants that a warden hasn't got much more than there was ahead of it.
func wantLittleKept(t *testing.T, when string, before uint64) {
	t.Helper()
	if after := heap(); after > before+1<<19 {
		t.Errorf("rule 8 of the language: %s a warden keeps %d bytes", when, after-before)
	}
}

// Of what was brought through, and of what went out, nothing is kept.
func TestOfWhatWasBroughtThroughNothingIsKept(t *testing.T) {
	w := warden.New(calm(0, 1))
	before := heap()
	for i := range 30_000 {
		if number, e := w.Ask(moving(0, 0, (i+1)%4)); number != i || e != api.OK {
			t.Fatalf("P19.1: Ask of command %d answers %d, %d", i, number, int(e))
		}
		if i < 4 {
			continue
		}
		for dc := range 2 {
			w.Take(dc, ack(uint64(i-3), 0))
		}
		if mail := w.Out(); len(mail) < 2 || w.Acked() != i-3 {
			t.Fatalf("P19.1: behind %d commands Acked answers %d", i+1, w.Acked())
		}
	}
	wantLittleKept(t, "behind 30000 commands", before)
	runtime.KeepAlive(w)
}

// Long texts of which keys are pieces aren't asked for, and so aren't to be kept.
func TestNoMoreIsKeptThanIsNeeded(t *testing.T) {
	first := calm(0, 1)
	var wardens []*warden.Warden
	before := heap()
	for i := range 40 {
		text := strings.Repeat(fmt.Sprintf("%02d", i), 1<<19)
		w := warden.New(behind(first, hasMap(1, mapOf([]int{0, 0}, text[:2]))))
		w.Ask(splitting(0, 0, text[:4]))
		w.Ask(splitting(0, 1, text[:8]))
		wardens = append(wardens, w)
	}
	wantLittleKept(t, "with keys that are pieces of long texts", before)
	for i, w := range wardens {
		key := strings.Repeat(fmt.Sprintf("%02d", i), 4)
		if tail := w.Tail(); !sameMap(tail.Maps[0], mapOf([]int{0, 0, 0}, key[:4], key)) || !sameMap(tail.Maps[1], mapOf([]int{0, 0}, key[:2])) {
			t.Errorf("P19.1: Tail answers %s", told(tail))
		}
	}
	runtime.KeepAlive(wardens)
}
