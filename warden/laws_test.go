package warden_test

import (
	"slices"
	"testing"

	"confluence/api"
	"confluence/config"
	"confluence/warden"
)

// observer sees what goes into a warden and what comes out of it, and knows nothing else of it.
type observer struct {
	*testing.T
	w     *warden.Warden
	first config.State
	taken []api.Cmd
	// mail is all that ever went out, and said all that was ever handed in, with how much mail there was ahead of it.
	mail []api.Mail
	said []saying
}

type saying struct {
	dc    int
	m     api.Msg
	ahead int
}

func watch(t *testing.T, s config.State) *observer {
	return &observer{T: t, w: warden.New(s), first: s}
}

func (o *observer) ask(c api.Cmd) {
	o.Helper()
	number, e := o.w.Ask(c)
	if e == api.OK {
		if number != len(o.taken) {
			o.Errorf("P19.1: Ask(%s) answers %d, not %d", tellCmd(c), number, len(o.taken))
		}
		o.taken = append(o.taken, c)
	}
	o.mail = append(o.mail, o.w.Out()...)
}

func (o *observer) take(dc int, m api.Msg) {
	o.said = append(o.said, saying{dc, m, len(o.mail)})
	o.w.Take(dc, m)
	o.mail = append(o.mail, o.w.Out()...)
}

// run is the configuration behind the first ones of the commands that were taken.
func (o *observer) run(count int) config.State {
	o.Helper()
	s := o.first
	for i, c := range o.taken[:count] {
		next, e := config.Apply(s, c)
		if e != api.OK {
			o.Errorf("P19.2: of the commands that were taken %d, %s, has error %d", i, tellCmd(c), int(e))
			return s
		}
		s = next
	}
	return s
}

// wantRun wants that what was brought through, and what was taken, is a run of the commands in their order.
func (o *observer) wantRun() {
	o.Helper()
	acked := o.w.Acked()
	if acked+o.w.Pending() != len(o.taken) {
		o.Errorf("P19.2: %d commands were taken, %d brought through, and %d are in the row", len(o.taken), acked, o.w.Pending())
		return
	}
	if now := o.w.Now(); !same(now, o.run(acked)) {
		o.Errorf("P19.2: with %d commands brought through now is %s, not %s", acked, told(now), told(o.run(acked)))
	}
	if tail := o.w.Tail(); !same(tail, o.run(len(o.taken))) {
		o.Errorf("P19.2: with %d commands taken tail is %s, not %s", len(o.taken), told(tail), told(o.run(len(o.taken))))
	}
}

// steps makes any calls, most of which go on with what is under way.
func (o *observer) steps(n *numbers, count int, behind func()) {
	for range count {
		if n.below(6) == 0 {
			o.ask(anyCmd(n, o.w.Tail()))
		} else {
			o.take(mostly(n, 4), anyAnswer(n, o.epoch()))
		}
		behind()
		if o.Failed() {
			return
		}
	}
}

// epoch is that of the last entry that went out.
func (o *observer) epoch() uint64 {
	for _, m := range slices.Backward(o.mail) {
		if m.Msg.Kind == 21 {
			return m.Msg.Id
		}
	}
	return 0
}

func TestWhatIsBroughtThroughIsARun(t *testing.T) {
	n, through := numbers(201), 0
	for range 200 {
		o := watch(t, anyBeginning(t, &n))
		acked := 0
		o.steps(&n, 250, func() {
			o.wantRun()
			if is := o.w.Acked(); is < acked || is > acked+1 {
				o.Errorf("P19.2: behind one call Acked goes from %d to %d", acked, is)
			}
			acked = o.w.Acked()
		})
		through += acked
		if t.Failed() {
			return
		}
	}
	if through < 1000 {
		t.Errorf("P19.2: in long runs but %d commands are brought through", through)
	}
}

// The entries that go out are of the commands that were taken, in their order: each with N 1, and then, of an Add or a Remove, with N 2.
func TestEntriesAreOfTheCommandsInTheirOrder(t *testing.T) {
	n, count := numbers(202), 0
	for range 400 {
		o := watch(t, anyBeginning(t, &n))
		o.steps(&n, 250, func() {})
		var want []api.Msg
		for _, c := range o.taken {
			want = append(want, api.Msg{N: 1, Cmd: config.Plain(c)})
			if isTwofold(c) {
				want = append(want, api.Msg{N: 2, Cmd: config.Plain(c)})
			}
		}
		epoch := uint64(0)
		for _, m := range o.mail {
			if m.Msg.Kind != 21 {
				continue
			}
			if m.Msg.Id == epoch+1 {
				epoch++
			}
			if is := want[epoch-1]; m.Msg.Id != epoch || m.Msg.N != is.N || m.Msg.Cmd != is.Cmd {
				t.Fatalf("P19.2: the entry of epoch %d is %s, not of N %d and %s", epoch, tellMsg(m.Msg), is.N, tellCmd(is.Cmd))
			}
		}
		count += int(epoch)
	}
	if count < 2000 {
		t.Errorf("P19.2: in long runs but %d entries go out", count)
	}
}

// A run in which commands are refused is the same as one without them.
func TestRefusedCommandsChangeNothing(t *testing.T) {
	n, refused := numbers(203), 0
	for range 200 {
		first := anyBeginning(t, &n)
		all, few := watch(t, first), watch(t, first)
		for range 200 {
			if n.below(3) == 0 {
				c, taken := anyCmd(&n, all.w.Tail()), len(all.taken)
				all.ask(c)
				if len(all.taken) > taken {
					few.ask(c)
				} else {
					refused++
				}
			} else {
				dc, m := mostly(&n, 4), anyAnswer(&n, all.epoch())
				all.take(dc, m)
				few.take(dc, m)
			}
			if !viewOf(all.w).is(viewOf(few.w)) || !slices.EqualFunc(all.mail, few.mail, sameMail) {
				t.Fatalf("P19.2: with commands that are refused it is %s, without them %s; and the mail is %s, without them %s", viewOf(all.w), viewOf(few.w), tellMail(all.mail), tellMail(few.mail))
			}
		}
	}
	if refused < 3000 {
		t.Errorf("P19.2: but %d commands were refused", refused)
	}
}

// place is where in the mail the first entry of a command with this N stands; false: it didn't go out.
func (o *observer) place(number int, n uint64) (int, uint64, bool) {
	count := -1
	epoch := uint64(0)
	for i, m := range o.mail {
		if m.Msg.Kind != 21 || m.Msg.Id == epoch {
			continue
		}
		epoch = m.Msg.Id
		if m.Msg.N == 1 {
			count++
		}
		if count == number && m.Msg.N == n {
			return i, epoch, true
		}
	}
	return 0, 0, false
}

// hasSaid tells whether a datacenter said something of an epoch behind so much mail.
func (o *observer) hasSaid(dc, kind int, epoch uint64, behind int) bool {
	for _, s := range o.said {
		if s.dc == dc && s.m.Kind == kind && s.m.Id == epoch && s.ahead > behind {
			return true
		}
	}
	return false
}

// wantAnswers wants that each command that was brought through has all the answers that it waits for.
func (o *observer) wantAnswers() {
	o.Helper()
	for number := range o.w.Acked() {
		c, now, then := o.taken[number], o.run(number), o.run(number+1)
		at, epoch, there := o.place(number, 1)
		o.wantAcks(number, at, epoch, there, membersOf(now))
		if !isTwofold(c) {
			continue
		}
		if word := wordOf(c, epoch); !o.hasSaid(c.DC, word.Kind, epoch, at) {
			o.Errorf("P19.3: command %d, %s, is brought through, and %d didn't say kind %d", number, tellCmd(c), c.DC, word.Kind)
		}
		at, epoch, there = o.place(number, 2)
		o.wantAcks(number, at, epoch, there, unionOf(now, then))
	}
}

func (o *observer) wantAcks(number, at int, epoch uint64, there bool, dcs []int) {
	o.Helper()
	for _, dc := range dcs {
		if !there || !o.hasSaid(dc, 23, epoch, at) {
			o.Errorf("P19.3: command %d, %s, is brought through, and there is no Ack of epoch %d from %d behind its entry", number, tellCmd(o.taken[number]), epoch, dc)
		}
	}
}

func TestNothingIsBroughtThroughAheadOfItsAnswers(t *testing.T) {
	n, through := numbers(204), map[int]int{}
	for range 800 {
		o := watch(t, anyBeginning(t, &n))
		o.steps(&n, 200, func() {})
		o.wantAnswers()
		for _, c := range o.taken[:o.w.Acked()] {
			through[c.Kind]++
		}
		if t.Failed() {
			return
		}
	}
	for kind := 1; kind <= 6; kind++ {
		if through[kind] < 50 {
			t.Errorf("P19.3: in long runs but few commands of kind %d are brought through: %v", kind, through)
		}
	}
}

// answer is what a datacenter may say.
type answer struct {
	dc int
	m  api.Msg
}

// allAnswers are all Acks, Caughts and Drained of all datacenters and of the first epochs.
func allAnswers() []answer {
	var l []answer
	for dc := range 4 {
		for id := range uint64(6) {
			l = append(l, answer{dc, ack(id, 7)}, answer{dc, caught(id)}, answer{dc, drained(id)})
		}
	}
	return l
}

// wantWaits wants that a command isn't brought through, whatever is said in any order and as often as it is, as long as some answers are missing; and that it is when they come.
func wantWaits(t *testing.T, first config.State, c api.Cmd, what string, missing func(a answer) bool) {
	t.Helper()
	n := numbers(205 + c.Kind)
	var l []answer
	for _, a := range allAnswers() {
		if !missing(a) {
			l = append(l, a)
		}
	}
	w := warden.New(first)
	if _, e := w.Ask(c); e != api.OK {
		t.Fatalf("P19.1: Ask(%s) has error %d", tellCmd(c), int(e))
	}
	for range 6 {
		for _, a := range shuffled(&n, l) {
			w.Take(a.dc, a.m)
			if w.Acked() != 0 || w.Pending() != 1 || !same(w.Now(), first) {
				t.Fatalf("P19.3: %s is brought through, though %s", tellCmd(c), what)
			}
		}
	}
	for range 6 {
		for _, a := range shuffled(&n, allAnswers()) {
			w.Take(a.dc, a.m)
		}
	}
	if w.Acked() != 1 || w.Pending() != 0 {
		t.Errorf("P19.1: %s isn't brought through by all answers, when first %s", tellCmd(c), what)
	}
}

// One member says nothing: for each kind of command, and each member.
func TestOneThatSaysNothing(t *testing.T) {
	for _, k := range kinds() {
		for dc := range 4 {
			if dc == 3 && k.cmd.Kind != 1 {
				continue
			}
			wantWaits(t, base(), k.cmd, "one gate says nothing", func(a answer) bool { return a.dc == dc })
			wantWaits(t, base(), k.cmd, "one gate has no Ack", func(a answer) bool { return a.dc == dc && a.m.Kind == 23 })
			if dc < 3 {
				wantWaits(t, base(), k.cmd, "one gate has no Ack of the first entry", func(a answer) bool { return a.dc == dc && a.m.Kind == 23 && a.m.Id == 1 })
			}
		}
	}
}

// The word of the datacenter that joins or leaves is missing, or the Ack of the entry with N 2 of one of all.
func TestOneThatDoesNotSayAll(t *testing.T) {
	for _, k := range kinds() {
		if !isTwofold(k.cmd) {
			continue
		}
		word := wordOf(k.cmd, 1)
		wantWaits(t, base(), k.cmd, "the word is missing", func(a answer) bool { return a.dc == k.cmd.DC && a.m.Kind == word.Kind })
		wantWaits(t, base(), k.cmd, "the word of its epoch is missing", func(a answer) bool { return a.dc == k.cmd.DC && a.m.Kind == word.Kind && a.m.Id == 1 })
		for _, dc := range unionOf(base(), behind(base(), k.change)) {
			wantWaits(t, base(), k.cmd, "one gate has no Ack of the second entry", func(a answer) bool { return a.dc == dc && a.m.Kind == 23 && a.m.Id == 2 })
		}
	}
}

// Of any members.
func TestOneOfAnyMembersSaysNothing(t *testing.T) {
	for _, set := range sets() {
		first := calm(set...)
		for dc := range 4 {
			c := adding(dc)
			if first.Members[dc] {
				c = removing(dc)
			}
			if _, e := config.Apply(first, c); e != api.OK {
				c = moving(dc, 0, 2)
			}
			then, _ := config.Apply(first, c)
			for _, silent := range unionOf(first, then) {
				wantWaits(t, first, c, "one gate says nothing", func(a answer) bool { return a.dc == silent })
			}
		}
	}
}

// Of all rows of answers that a Remove or an Add may have, none that lacks one brings it through; with those that it waits for behind them it is.
func TestAllShortRowsOfAnswers(t *testing.T) {
	for _, l := range []struct {
		cmd api.Cmd
		all []answer
	}{
		{removing(1), []answer{{0, ack(1, 0)}, {1, ack(1, 0)}, {1, drained(1)}, {0, ack(2, 0)}, {1, ack(2, 0)}}},
		{adding(1), []answer{{0, ack(1, 0)}, {1, ack(1, 0)}, {1, caught(1)}, {0, ack(2, 0)}, {1, ack(2, 0)}}},
	} {
		first := calm(0)
		if l.cmd.Kind == 2 {
			first = calm(0, 1)
		}
		for i := range 5 * 5 * 5 * 5 * 5 * 5 {
			o := watch(t, first)
			o.ask(l.cmd)
			for k, left := i, 6; left > 0; k, left = k/5, left-1 {
				o.take(l.all[k%5].dc, l.all[k%5].m)
				o.wantAnswers()
			}
			for _, a := range l.all {
				o.take(a.dc, a.m)
			}
			if o.w.Acked() != 1 {
				t.Errorf("P19.1: behind all its answers %s isn't brought through", tellCmd(l.cmd))
			}
			if t.Failed() {
				return
			}
		}
	}
}

// What comes late, of commands that were brought through long ago, brings no other one through.
func TestLateAnswersBringNothingThrough(t *testing.T) {
	n := numbers(208)
	for range 60 {
		o := watch(t, calm(0, 1, 2))
		var late []answer
		for round := range 40 {
			o.ask(anyCmd(&n, o.w.Tail()))
			acked := o.w.Acked()
			for _, a := range shuffled(&n, late) {
				o.take(a.dc, a.m)
			}
			if o.w.Acked() != acked {
				t.Fatalf("P19.3: in round %d late answers bring a command through", round)
			}
			for range 200 {
				if o.w.Pending() == 0 {
					break
				}
				a := answer{n.below(4), anyAnswer(&n, o.epoch())}
				if a.m.Id == o.epoch() {
					o.take(a.dc, a.m)
					late = append(late, a)
				}
			}
		}
		o.wantAnswers()
		if o.w.Acked() < 5 {
			t.Errorf("P19.3: but %d commands are brought through", o.w.Acked())
		}
	}
}
