package warden_test

import (
	"testing"

	"confluence/api"
	"confluence/config"
)

// saidFirst is what the entry with N 1 says: of a Remove now, else what is behind the command.
func saidFirst(c api.Cmd, now, then config.State) config.State {
	if c.Kind == 2 {
		return now
	}
	return then
}

// The numbers are written out.
func TestEntriesWrittenOut(t *testing.T) {
	was := behind(calm(0, 2), numbered)
	said := func(bits uint64, dc int) []uint64 {
		l := []uint64{bits, 10, 11, 12, 13, 14, 15, 16, 17, 18, 19, 20, 21, 22, 23, 24, 25, 26, 27, 28, 29, 30}
		for i := range 5 {
			if dc >= 0 {
				l[2+5*dc+i] = 2
			}
		}
		return l
	}
	switched := said(5, -1)
	switched[13] = 3
	for _, l := range []struct {
		cmd           api.Cmd
		once, twice   []uint64
		hearers, acks []int
	}{
		{api.Cmd{Kind: 1, DC: 3}, said(13, 3), said(13, 3), []int{1, 11, 16}, []int{0, 2}},
		{api.Cmd{Kind: 1, DC: 1}, said(7, 1), said(7, 1), []int{1, 6, 11}, []int{0, 2}},
		{api.Cmd{Kind: 2, DC: 0}, said(5, -1), said(4, 0), []int{1, 11}, []int{0, 2}},
		{api.Cmd{Kind: 2, DC: 2}, said(5, -1), said(1, 2), []int{1, 11}, []int{0, 2}},
		{api.Cmd{Kind: 3, DC: 2, Key: "k"}, said(5, -1), nil, []int{1, 11}, []int{0, 2}},
		{api.Cmd{Kind: 5, DC: 0, Node: 3}, said(5, -1), nil, []int{1, 11}, []int{0, 2}},
		{api.Cmd{Kind: 6, DC: 2, Node: 1, Mode: 3}, switched, nil, []int{1, 11}, []int{0, 2}},
	} {
		s := over(t, was)
		s.asks(0, l.cmd)
		want := func(id, n uint64, vec []uint64) []api.Mail {
			var mails []api.Mail
			for _, place := range l.hearers {
				mails = append(mails, api.Mail{To: place, Msg: api.Msg{Kind: 21, Id: id, N: n, Cmd: l.cmd, Vec: vec}})
			}
			return mails
		}
		s.out(want(1, 1, l.once)...)
		s.acks(1, 0, l.acks...)
		if l.twice == nil {
			s.out()
			continue
		}
		s.w.Out()
		s.take(l.cmd.DC, wordOf(l.cmd, 1))
		s.out(want(2, 2, l.twice)...)
	}
}

// Each kind of command, from its entry with N 1 to where it is brought through, and all that is told at each step.
func TestEachKindStepByStep(t *testing.T) {
	for _, k := range kinds() {
		now := base()
		then := behind(now, k.change)
		hearers := unionOf(now, then)
		s := over(t, now)
		s.asks(0, k.cmd)
		s.out(entries(1, 1, k.cmd, saidFirst(k.cmd, now, then), hearers...)...)
		s.busy(0, 1, now, then, then)
		s.acks(1, 5, 2, 0)
		s.out()
		s.busy(0, 1, now, then, then)
		s.acks(1, 4, 1)
		if !isTwofold(k.cmd) {
			s.out()
			s.idle(1, then)
			continue
		}
		if k.cmd.Kind == 1 {
			s.out(floor(3, 1, 5))
		}
		s.out()
		s.busy(0, 1, now, then, then)
		s.take(k.cmd.DC, wordOf(k.cmd, 1))
		s.out(entries(2, 2, k.cmd, then, hearers...)...)
		s.busy(0, 1, now, then, then)
		s.acks(2, 9, hearers[1:]...)
		s.out()
		s.busy(0, 1, now, then, then)
		s.acks(2, 9, hearers[0])
		s.out()
		s.idle(1, then)
	}
}

// To which gates entries go: of each set of members, and each datacenter that joins or leaves.
func TestWhoHearsOfAMember(t *testing.T) {
	for _, set := range sets() {
		for dc := range 4 {
			now := calm(set...)
			c, ch := adding(dc), joined(dc)
			if now.Members[dc] {
				c, ch = removing(dc), left(dc)
			}
			if len(set) == 1 && c.Kind == 2 || len(set) == 0 {
				continue
			}
			then := behind(now, ch)
			hearers := unionOf(now, then)
			s := over(t, now)
			s.asks(0, c)
			s.out(entries(1, 1, c, saidFirst(c, now, then), hearers...)...)
			s.acks(1, 0, set...)
			s.w.Out()
			s.take(dc, wordOf(c, 1))
			s.out(entries(2, 2, c, then, hearers...)...)
		}
	}
}

// All others go to the gates of the members.
func TestWhoHearsOfAShardOrAMode(t *testing.T) {
	for _, set := range sets() {
		for _, dc := range set {
			for _, l := range []kind{{splitting(dc, 0, "k"), hasMap(dc, mapOf([]int{0, 0}, "k"))}, {moving(dc, 0, 1), hasMap(dc, mapOf([]int{1}))}, {switching(dc, 2, 1), speaks(1, placesOf(dc)[2])}} {
				s := over(t, calm(set...))
				s.asks(0, l.cmd)
				s.out(entries(1, 1, l.cmd, behind(calm(set...), l.change), set...)...)
				s.acks(1, 0, set...)
				s.out()
				s.idle(1, behind(calm(set...), l.change))
			}
		}
	}
}

// Members at or above Pool hear too, and are waited for.
func TestMembersAbovePool(t *testing.T) {
	now := calm(0, 1, 3)
	now.Pool = 1
	c := splitting(0, 0, "k")
	then := behind(now, hasMap(0, mapOf([]int{0, 0}, "k")))
	s := over(t, now)
	s.asks(0, c)
	s.out(entries(1, 1, c, then, 0, 1, 3)...)
	s.acks(1, 0, 0, 1)
	s.busy(0, 1, now, then, then)
	s.acks(1, 0, 3)
	s.idle(1, then)
}

// Without members nobody's Ack is waited for: the Floor goes right behind the first entry.
func TestAddWithoutMembers(t *testing.T) {
	for dc := range 4 {
		now := behind(calm(), numbered)
		then := behind(now, joined(dc))
		s := over(t, now)
		s.asks(0, adding(dc))
		s.out(append(entries(1, 1, adding(dc), then, dc), floor(dc, 1, 0))...)
		s.ignores(dc, ack(1, 9), drained(1))
		s.take(dc, caught(1))
		s.out(entries(2, 2, adding(dc), then, dc)...)
		s.busy(0, 1, now, then, then)
		s.acks(2, 3, dc)
		s.idle(1, then)
		s.asks(1, switching(dc, 0, 3))
		s.acks(3, 0, dc)
		s.idle(2, behind(then, speaks(3, gateOf(dc))))
	}
}

// Modes that are none stand as numbers of 64 bits.
func TestModesOfAnEntry(t *testing.T) {
	for _, mode := range modes() {
		for place := range 21 {
			now := behind(calm(1, 2), speaks(mode, place))
			then := behind(now, hasMap(2, mapOf([]int{3})))
			s := over(t, now)
			s.asks(0, moving(2, 0, 3))
			s.out(entries(1, 1, moving(2, 0, 3), then, 1, 2)...)
		}
	}
	s := over(t, behind(calm(0), speaks(-1, 0), speaks(lowest, 20)))
	s.asks(0, moving(0, 0, 1))
	for _, m := range s.w.Out() {
		if m.Msg.Vec[1] != 1<<64-1 || m.Msg.Vec[21] != 1<<63 {
			s.wrong("of the modes -1 and %d there are %v", lowest, m.Msg.Vec)
		}
	}
}

// Epochs are counted entry by entry, over commands of all kinds.
func TestEpochsOfARow(t *testing.T) {
	s, state, epoch := over(t, calm(0)), calm(0), uint64(0)
	for number, k := range []kind{
		{adding(1), joined(1)}, {splitting(1, 0, "k"), hasMap(1, mapOf([]int{0, 0}, "k"))}, {adding(3), joined(3)}, {removing(0), left(0)}, {moving(3, 0, 1), hasMap(3, mapOf([]int{1}))},
		{merging(1, 0), hasMap(1, mapOf([]int{0}))}, {removing(1), left(1)}, {switching(3, 0, 1), speaks(1, 16)}, {adding(0), joined(0)}, {removing(3), left(3)}, {adding(3), joined(3)},
	} {
		now, then := state, behind(state, k.change)
		hearers := unionOf(now, then)
		s.asks(number, k.cmd)
		epoch++
		s.out(entries(epoch, 1, k.cmd, saidFirst(k.cmd, now, then), hearers...)...)
		s.acks(epoch, 0, membersOf(now)...)
		if isTwofold(k.cmd) {
			s.w.Out()
			s.take(k.cmd.DC, wordOf(k.cmd, epoch))
			epoch++
			s.out(entries(epoch, 2, k.cmd, then, hearers...)...)
			s.acks(epoch, 0, hearers...)
		}
		s.out()
		s.idle(number+1, then)
		state = then
	}
}

// Each next command goes out by itself, when the one ahead is brought through, and not sooner.
func TestTheNextOneGoesOutByItself(t *testing.T) {
	for _, k := range kinds() {
		for _, next := range kinds() {
			now := base()
			then := behind(now, k.change)
			last, e := config.Apply(then, next.cmd)
			if e != api.OK {
				continue
			}
			s := over(t, now)
			s.asks(0, k.cmd, next.cmd)
			s.out(entries(1, 1, k.cmd, saidFirst(k.cmd, now, then), unionOf(now, then)...)...)
			epoch := uint64(2)
			if isTwofold(k.cmd) {
				s.acks(1, 0, 0, 1, 2)
				s.take(k.cmd.DC, wordOf(k.cmd, 1))
				s.w.Out()
				epoch = 3
			}
			hearers := unionOf(now, then)
			s.acks(epoch-1, 0, hearers[1:]...)
			s.out()
			s.busy(0, 2, now, then, last)
			s.acks(epoch-1, 0, hearers[0])
			s.out(entries(epoch, 1, next.cmd, saidFirst(next.cmd, then, last), unionOf(then, last)...)...)
			s.busy(1, 1, then, last, last)
		}
	}
}

// All that has to go stands in the order in which it came about, when nobody asks for it in between.
func TestTheOrderOfTheMail(t *testing.T) {
	now := calm(0, 1)
	added := behind(now, joined(3))
	cut := behind(added, hasMap(3, mapOf([]int{0, 0}, "k")))
	gone := behind(cut, left(0))
	s := over(t, now)
	s.asks(0, adding(3), splitting(3, 0, "k"), removing(0))
	s.acks(1, 6, 1, 0)
	s.take(3, caught(1))
	s.acks(2, 7, 3, 1, 0)
	s.acks(3, 0, 1, 0, 3)
	s.take(0, drained(4))
	s.acks(4, 0, 3, 0, 1)
	var want []api.Mail
	want = append(want, entries(1, 1, adding(3), added, 0, 1, 3)...)
	want = append(want, floor(3, 1, 6))
	want = append(want, entries(2, 2, adding(3), added, 0, 1, 3)...)
	want = append(want, entries(3, 1, splitting(3, 0, "k"), cut, 0, 1, 3)...)
	want = append(want, entries(4, 1, removing(0), cut, 0, 1, 3)...)
	want = append(want, entries(5, 2, removing(0), gone, 0, 1, 3)...)
	s.out(want...)
	s.acks(5, 0, 0, 1, 3)
	s.out()
	s.idle(3, gone)
}

// Answers count also where the mail that they are of wasn't asked for.
func TestOutMakesNoDifference(t *testing.T) {
	n := numbers(192)
	for range 200 {
		asked, silent := over(t, calm(0, 1)), over(t, calm(0, 1))
		var all []api.Mail
		for range 60 {
			if c := anyCmd(&n, asked.w.Tail()); n.below(3) == 0 {
				asked.w.Ask(c)
				silent.w.Ask(c)
			}
			dc, m := n.below(4), anyAnswer(&n, uint64(n.below(20)))
			asked.take(dc, m)
			silent.take(dc, m)
			all = append(all, asked.w.Out()...)
			silent.wantView(viewOf(asked.w))
		}
		once := silent.w.Out()
		if tellMail(once) != tellMail(all) {
			silent.wrong("Out answers %s; asked all the time %s", tellMail(once), tellMail(all))
		}
		if t.Failed() {
			return
		}
	}
}
