package warden_test

import (
	"testing"

	"confluence/warden"
)

// Narrow of any two numbers: the second one, if the first is Both; else the first.
func TestNarrow(t *testing.T) {
	all := append(ints(), 256+2, -2-1<<32)
	for _, a := range all {
		for _, b := range all {
			want := a
			if a == 2 {
				want = b
			}
			if got := warden.Narrow(a, b); got != want {
				t.Errorf("P19.1: Narrow(%d, %d) is %d, not %d", a, b, got, want)
			}
		}
	}
	for _, l := range [][3]int{{1, 2, 1}, {2, 1, 1}, {2, 3, 3}, {3, 2, 3}, {2, 2, 2}, {1, 1, 1}, {3, 3, 3}, {1, 3, 1}, {3, 1, 3}, {0, 2, 0}, {2, 0, 0}} {
		if got := warden.Narrow(l[0], l[1]); got != l[2] {
			t.Errorf("P19.1: Narrow(%d, %d) is %d, not %d", l[0], l[1], got, l[2])
		}
	}
}

// wantModes wants each place's mode, also when it is asked again.
func (s *scene) wantModes(want [21]int) {
	s.Helper()
	for range 2 {
		if got := s.w.Modes(); got != want {
			s.wrong("Modes answers %v, not %v", got, want)
		}
	}
}

// With nothing under way they are those of now.
func TestModesWithNothingUnderWay(t *testing.T) {
	for _, was := range strangeStates() {
		over(t, was).wantModes(was.Modes)
	}
	s := over(t, behind(calm(0), speaks(1, 3)))
	s.refuses(8, switching(0, 0, 2))
	s.wantModes([21]int{2, 2, 2, 1, 2, 2, 2, 2, 2, 2, 2, 2, 2, 2, 2, 2, 2, 2, 2, 2, 2})
}

// From each mode to each one that may be: while it is under way the one of both that isn't Both; behind it the new one.
func TestModesOfASwitch(t *testing.T) {
	for _, l := range []struct{ from, to, while int }{{1, 2, 1}, {2, 1, 1}, {2, 3, 3}, {3, 2, 3}, {0, 1, 0}, {7, 2, 7}, {-1, 3, -1}, {2, 1, 1}} {
		for dc := range 4 {
			for node := range 5 {
				place := placesOf(dc)[node]
				now := behind(calm(dc, (dc+1)%4), speaks(l.from, place))
				s := over(t, now)
				s.wantModes(now.Modes)
				s.asks(0, switching(dc, node, l.to))
				while := behind(now, speaks(l.while, place))
				s.wantModes(while.Modes)
				s.w.Out()
				s.acks(1, 0, dc)
				s.wantModes(while.Modes)
				s.acks(1, 0, (dc+1)%4)
				s.wantModes(behind(now, speaks(l.to, place)).Modes)
			}
		}
	}
}

// Who joins or leaves is Both behind it; while it is under way its places speak as now, but for those that are Both now.
func TestModesOfAMember(t *testing.T) {
	for _, mode := range modes() {
		for dc := range 4 {
			for _, c := range []kind{{adding(dc), joined(dc)}, {removing(dc), left(dc)}} {
				now := behind(calm((dc+1)%4, (dc+2)%4), isMember(c.cmd.Kind == 2, dc), allSpeak(mode, dc), speaks(9, 0, gateOf((dc+1)%4)))
				then := behind(now, c.change)
				hearers := unionOf(now, then)
				s := over(t, now)
				s.asks(0, c.cmd)
				s.wantModes(now.Modes)
				s.acks(1, 0, membersOf(now)...)
				s.wantModes(now.Modes)
				s.take(dc, wordOf(c.cmd, 1))
				s.wantModes(now.Modes)
				s.acks(2, 0, hearers...)
				s.wantModes(then.Modes)
				s.idle(1, then)
			}
		}
	}
}

// Shards are of no matter to them.
func TestModesOfAShard(t *testing.T) {
	for _, k := range kinds() {
		if k.cmd.Kind < 3 || k.cmd.Kind > 5 {
			continue
		}
		s := over(t, base())
		s.asks(0, k.cmd)
		s.wantModes(base().Modes)
		s.acks(1, 0, 0, 1, 2)
		s.wantModes(base().Modes)
	}
}

// The command under way alone counts, not those that wait behind it.
func TestModesOfARow(t *testing.T) {
	now := calm(0, 1)
	s := over(t, now)
	s.asks(0, moving(0, 0, 1), switching(0, 0, 3), switching(1, 2, 3), switching(0, 0, 2), adding(2), switching(2, 4, 3), removing(1))
	mode := [][]change{
		{},
		{speaks(3, 1)},
		{speaks(3, 1, 8)},
		{speaks(3, 1, 8)},
		{speaks(3, 8)},
	}
	for i, changes := range mode {
		s.wantModes(behind(now, changes...).Modes)
		s.acks(uint64(i+1), 0, 0, 1)
	}
	s.take(2, caught(5))
	s.acks(6, 0, 0, 1, 2)
	s.wantModes(behind(now, speaks(3, 8, 15)).Modes)
	s.acks(7, 0, 0, 1, 2)
	s.wantModes(behind(now, speaks(3, 8, 15)).Modes)
	s.acks(8, 0, 0, 1, 2)
	s.take(1, drained(8))
	s.wantModes(behind(now, speaks(3, 8, 15)).Modes)
	s.acks(9, 0, 0, 1, 2)
	s.wantModes(behind(now, speaks(3, 15)).Modes)
	if s.w.Pending() != 0 {
		s.wrong("Pending answers %d", s.w.Pending())
	}
}

// What Start has, that goes from Elder to Newer place by place: no two places ever speak such that they agree on nothing.
func TestModesOfAWholeCluster(t *testing.T) {
	s, number := over(t, started(t, 2, 2, 1)), 0
	for _, mode := range []int{2, 3, 2, 1} {
		for dc := range 2 {
			for node := range 2 {
				s.asks(number, switching(dc, node, mode))
				number++
				for _, a := range s.w.Modes() {
					for _, b := range s.w.Modes() {
						if a+b == 4 && a != b {
							s.wrong("Modes answers %v", s.w.Modes())
						}
					}
				}
				s.acks(uint64(number), 0, 1, 0)
			}
		}
	}
	s.idle(16, started(t, 2, 2, 1))
}
