package warden_test

import (
	"strings"
	"testing"

	"confluence/api"
	"confluence/config"
)

// Of each kind: taken with the row empty, it is under way at once.
func TestAskWithTheRowEmpty(t *testing.T) {
	for _, k := range kinds() {
		was := base()
		then := behind(was, k.change)
		s := over(t, was)
		s.asks(0, k.cmd)
		s.busy(0, 1, was, then, then)
		if mail := s.w.Out(); len(mail) != len(unionOf(was, then)) {
			s.wrong("Out answers %s", tellMail(mail))
		}
		s.busy(0, 1, was, then, then)
	}
}

// Of each kind behind each other one: it is taken, but nothing goes out, and now and the modes stay.
func TestAskWithCommandsInTheRow(t *testing.T) {
	for _, k := range kinds() {
		for _, other := range kinds() {
			was := base()
			then := behind(was, k.change)
			tail, e := config.Apply(then, other.cmd)
			s := over(t, was)
			s.asks(0, k.cmd)
			s.w.Out()
			if e != api.OK {
				s.refuses(e, other.cmd)
				s.busy(0, 1, was, then, then)
				continue
			}
			s.asks(1, other.cmd)
			s.out()
			s.busy(0, 2, was, then, tail)
		}
	}
}

// Each of layer 18's errors, of a row that is empty.
func TestAskIsRefused(t *testing.T) {
	s := over(t, behind(calm(0, 1), hasMap(1, lettered(8, 2)), speaks(1, 4), speaks(3, 9)))
	for _, c := range refusedOverTwo() {
		s.refuses(c.e, c.cmd)
		s.refuses(c.e, noisy(c.cmd))
	}
	s.asks(0, removing(0))
	only := over(t, calm(2))
	only.refuses(api.ErrLast, removing(2))
	only.refuses(api.ErrDC, removing(0))
	none := over(t, calm())
	none.refuses(api.ErrDC, removing(0), splitting(1, 0, "m"), switching(3, 0, 1))
	small := over(t, config.State{})
	small.refuses(api.ErrDC, adding(0), adding(3), removing(0), merging(0, 0))
}

type refused struct {
	cmd api.Cmd
	e   api.Errno
}

// refusedOverTwo are refused over the members 0 and 1, of which the second one's map is full; one node of the first is Elder, another one of the second Newer.
func refusedOverTwo() []refused {
	l := []refused{
		{adding(0), api.ErrThere}, {adding(1), api.ErrThere},
		{adding(4), api.ErrDC}, {adding(-1), api.ErrDC}, {adding(highest), api.ErrDC},
		{removing(2), api.ErrDC}, {removing(4), api.ErrDC}, {removing(lowest), api.ErrDC},
		{splitting(2, 0, "m"), api.ErrDC}, {merging(3, 0), api.ErrDC}, {moving(2, 0, 1), api.ErrDC}, {switching(3, 0, 1), api.ErrDC},
		{splitting(0, 1, "m"), api.ErrNone}, {splitting(0, -1, "m"), api.ErrNone},
		{splitting(0, 0, ""), api.ErrPoint}, {splitting(0, 0, strings.Repeat("m", 17)), api.ErrPoint}, {splitting(1, 0, "c"), api.ErrPoint},
		{splitting(1, 0, "a"), api.ErrFull},
		{merging(0, 0), api.ErrNone}, {merging(1, 0), api.ErrAway}, {merging(1, 8), api.ErrNone},
		{moving(0, 0, 0), api.ErrThere}, {moving(0, 0, 4), api.ErrArg}, {moving(0, 0, -1), api.ErrArg}, {moving(0, 1, 1), api.ErrNone},
		{switching(0, 0, 2), api.ErrThere}, {switching(0, 3, 1), api.ErrThere}, {switching(0, 0, 0), api.ErrArg}, {switching(0, 0, 4), api.ErrArg}, {switching(0, 5, 1), api.ErrArg}, {switching(0, -1, 2), api.ErrArg},
		{switching(0, 0, 3), api.ErrWire}, {switching(1, 0, 1), api.ErrWire}, {switching(0, 3, 3), api.ErrWire}, {switching(1, 3, 1), api.ErrWire},
	}
	for _, kind := range append(far(), 0, 7, 8, 255) {
		l = append(l, refused{api.Cmd{Kind: kind, DC: 0, Key: "m"}, api.ErrKind}, refused{api.Cmd{Kind: kind, DC: 9}, api.ErrKind})
	}
	return l
}

// What a map's own errors are, of maps that no commands lead to.
func TestAskOverWrongMaps(t *testing.T) {
	for _, m := range wrongMaps() {
		was := behind(calm(0, 1), hasMap(1, m))
		for _, c := range []api.Cmd{splitting(1, 0, "k"), merging(1, 0), moving(1, 0, 3), moving(1, 9, 9)} {
			_, e := config.Apply(was, c)
			if e == api.OK {
				t.Fatalf("a test's map %q %v is right", m.Cuts, m.Nodes)
			}
			over(t, was).refuses(e, c)
		}
	}
}

// What is refused of tail, though it isn't of now; and what is taken of tail, though of now it isn't.
func TestAskIsOfTail(t *testing.T) {
	for _, l := range []struct {
		first        api.Cmd
		refused      api.Cmd
		e            api.Errno
		taken        api.Cmd
		takenElseErr api.Errno
	}{
		{adding(2), adding(2), api.ErrThere, moving(2, 0, 1), api.ErrDC},
		{adding(3), adding(3), api.ErrThere, removing(3), api.ErrDC},
		{removing(1), splitting(1, 0, "m"), api.ErrDC, adding(1), api.ErrThere},
		{removing(0), removing(1), api.ErrLast, adding(0), api.ErrThere},
		{removing(1), removing(1), api.ErrDC, adding(2), api.OK},
		{splitting(0, 0, "m"), splitting(0, 0, "m"), api.ErrPoint, splitting(0, 1, "t"), api.ErrNone},
		{splitting(0, 0, "m"), splitting(0, 0, "t"), api.ErrPoint, merging(0, 0), api.ErrNone},
		{moving(0, 0, 2), moving(0, 0, 2), api.ErrThere, moving(0, 0, 0), api.ErrThere},
		{switching(0, 0, 1), switching(0, 0, 1), api.ErrThere, switching(0, 0, 2), api.ErrThere},
		{switching(0, 1, 3), switching(1, 1, 1), api.ErrWire, switching(1, 1, 3), api.OK},
		{switching(1, 0, 1), switching(0, 0, 3), api.ErrWire, switching(0, 0, 1), api.OK},
	} {
		was := calm(0, 1)
		if _, e := config.Apply(was, l.refused); e != api.OK && l.refused != l.first {
			t.Errorf("a test's command %s is refused of now too", tellCmd(l.refused))
		}
		over(t, was).ask(l.taken, 0, l.takenElseErr)
		s := over(t, was)
		s.asks(0, l.first)
		s.w.Out()
		s.refuses(l.e, l.refused, noisy(l.refused))
		s.asks(1, l.taken)
		s.out()
	}
}

// With the first of them brought through tail is still what counts.
func TestAskIsOfTailBehindAnswers(t *testing.T) {
	s := over(t, calm(0))
	s.asks(0, splitting(0, 0, "m"), moving(0, 1, 1), moving(0, 0, 1), merging(0, 0))
	for acked := range 3 {
		s.acks(uint64(acked+1), 0, 0)
		s.w.Out()
		s.refuses(api.ErrThere, moving(0, 0, 1))
		s.refuses(api.ErrNone, merging(0, 0), moving(0, 1, 0))
	}
	s.acks(4, 0, 0)
	s.idle(4, behind(calm(0), hasMap(0, mapOf([]int{1}))))
	s.refuses(api.ErrThere, moving(0, 0, 1))
}

// What goes out is its Plain, and so is what is done.
func TestAskOfACommandWithEveryFieldSet(t *testing.T) {
	for _, l := range []struct{ cmd, plain api.Cmd }{
		{api.Cmd{Kind: 1, DC: 3, Shard: 1, Node: 1, Mode: 1, Key: "t"}, api.Cmd{Kind: 1, DC: 3}},
		{api.Cmd{Kind: 2, DC: 2, Shard: 1, Node: 1, Mode: 1, Key: "t"}, api.Cmd{Kind: 2, DC: 2}},
		{api.Cmd{Kind: 3, DC: 2, Shard: 1, Node: 1, Mode: 1, Key: "t"}, api.Cmd{Kind: 3, DC: 2, Shard: 1, Key: "t"}},
		{api.Cmd{Kind: 4, DC: 2, Shard: 0, Node: 1, Mode: 1, Key: "t"}, api.Cmd{Kind: 4, DC: 2}},
		{api.Cmd{Kind: 5, DC: 2, Shard: 1, Node: 1, Mode: 1, Key: "t"}, api.Cmd{Kind: 5, DC: 2, Shard: 1, Node: 1}},
		{api.Cmd{Kind: 6, DC: 2, Shard: 1, Node: 1, Mode: 1, Key: "t"}, api.Cmd{Kind: 6, DC: 2, Node: 1, Mode: 1}},
		{api.Cmd{Kind: 6, DC: 0, Shard: highest, Node: 0, Mode: 3, Key: strings.Repeat("\xff", 99)}, api.Cmd{Kind: 6, Mode: 3}},
	} {
		loud, bare := over(t, base()), over(t, base())
		loud.asks(0, switching(1, 1, 2), l.cmd)
		bare.asks(0, switching(1, 1, 2), l.plain)
		for _, s := range []*scene{loud, bare} {
			s.w.Out()
			s.acks(1, 0, 0, 1, 2)
		}
		got, want := loud.w.Out(), bare.w.Out()
		if len(got) < 3 || tellMail(got) != tellMail(want) {
			loud.wrong("Out answers %s; not %s", tellMail(got), tellMail(want))
		}
		for _, m := range got {
			if m.Msg.Cmd != l.plain {
				loud.wrong("what goes out has %s", tellCmd(m.Msg.Cmd))
			}
		}
		loud.wantView(viewOf(bare.w))
		loud.through(l.plain, 2, []int{0, 1, 2}, 0, 1, 2, 3)
		bare.through(l.plain, 2, []int{0, 1, 2}, 0, 1, 2, 3)
		loud.wantView(viewOf(bare.w))
		for _, m := range loud.w.Out() {
			if m.Msg.Kind == 21 && m.Msg.Cmd != l.plain {
				loud.wrong("what goes out has %s", tellCmd(m.Msg.Cmd))
			}
		}
	}
}

// eightMoves move one shard about.
func eightMoves(dc int) []api.Cmd {
	var l []api.Cmd
	for i := range 8 {
		l = append(l, moving(dc, 0, (i+1)%4))
	}
	return l
}

// With eight in the row nothing is taken, whatever else is wrong; with one of them brought through one more is.
func TestAskWithTheRowFull(t *testing.T) {
	s := over(t, calm(0, 1))
	s.asks(0, eightMoves(0)...)
	s.out(entries(1, 1, moving(0, 0, 1), calm(0, 1), 0, 1)...)
	for number := 8; number < 30; number++ {
		s.refuses(api.ErrFull, moving(0, 0, 3), adding(0), adding(2), removing(3), api.Cmd{}, api.Cmd{Kind: 7, DC: -1}, splitting(0, 9, ""), switching(0, 0, 2))
		s.acks(uint64(number-7), 5, 0)
		s.refuses(api.ErrFull, moving(0, 0, 3))
		s.acks(uint64(number-7), 5, 1)
		s.w.Out()
		s.refuses(api.ErrThere, moving(0, 0, number%4))
		s.asks(number, moving(0, 0, (number+1)%4))
		s.out()
	}
}

// An Add and a Remove are in the row till all of their entries are answered.
func TestTheRowIsFullTillACommandIsBroughtThrough(t *testing.T) {
	for _, k := range []api.Cmd{adding(2), removing(1)} {
		s := over(t, calm(0, 1))
		s.asks(0, k)
		s.asks(1, eightMoves(0)[:7]...)
		for _, step := range []func(){
			func() { s.acks(1, 0, 0, 1) },
			func() { s.take(k.DC, wordOf(k, 1)) },
			func() { s.acks(2, 0, 0) },
			func() { s.acks(2, 0, 1) },
		} {
			s.w.Out()
			s.refuses(api.ErrFull, moving(0, 0, 1), adding(3))
			step()
		}
		s.acks(2, 0, 2)
		s.w.Out()
		s.asks(8, moving(0, 0, 0))
		s.refuses(api.ErrFull, moving(0, 0, 1))
	}
}

// Numbers count what was taken, not what was asked or brought through.
func TestNumbers(t *testing.T) {
	n := numbers(191)
	for range 60 {
		s, taken := over(t, calm(1)), 0
		for range 100 {
			switch n.below(3) {
			case 0:
				s.ask(api.Cmd{Kind: 9}, 0, map[bool]api.Errno{true: api.ErrFull, false: api.ErrKind}[s.w.Pending() == 8])
			case 1:
				if s.w.Pending() < 8 {
					s.asks(taken, moving(1, 0, (taken+1)%4))
					taken++
				}
			case 2:
				s.acks(uint64(s.w.Acked()+1), 3, 1)
			}
			if is := s.w.Acked() + s.w.Pending(); is != taken {
				s.wrong("%d commands were taken, and Acked and Pending are %d in all", taken, is)
			}
		}
		if t.Failed() {
			return
		}
	}
}
