package stab_test

import (
	"testing"

	"confluence/api"
)

// behindhand is a scene in which Stable is below what it is raised to when it is looked at: the own datacenter came as the only member, with a node at 9.
func behindhand(t *testing.T) *scene {
	t.Helper()
	s := made(t, 0, 1, who(), beat(0, 9), join(0, 1))
	s.want(known{9, 9, 0, who(0)})
	return s
}

// Calls behind which Stable is looked at, also those that say nothing new, and those of a datacenter that is no member.
func TestStableIsLookedAt(t *testing.T) {
	for _, time := range []uint64{0, 1, 9, latest} {
		calls := []call{beat(0, min(time, 9))}
		for _, dc := range append(noDCs(), 1, 2, 3) {
			calls = append(calls, got(dc, time))
			for _, epoch := range []int{1, 2, highest} {
				calls = append(calls, told(dc, epoch, time))
			}
		}
		for _, c := range calls {
			s := behindhand(t)
			s.behind(c)
			s.want(known{9, 9, 9, who(0)})
		}
	}
}

// Calls behind which it isn't: those of which the chapter says that they do nothing at all.
func TestStableIsNotLookedAt(t *testing.T) {
	for _, time := range moments() {
		s := behindhand(t)
		for _, node := range []int{-1, 1, 2, 3, 4, highest, lowest} {
			s.wantUnchanged(api.OK, beat(node, time))
		}
		s.wantUnchanged(api.OK, got(0, time))
		for _, epoch := range epochs() {
			s.wantUnchanged(api.OK, told(0, epoch, time))
		}
		for _, dc := range append(noDCs(), 0, 1, 2, 3) {
			s.wantUnchanged(api.OK, told(dc, 0, time), told(dc, -1, time), told(dc, lowest, time))
		}
		s.behind(got(1, 0))
		s.wantStable(9)
	}
}

// Nor is it behind a Lift or a Join, nor behind calls that have an error, nor behind those that hand nothing in.
func TestStableIsNotLookedAtBehindOtherCalls(t *testing.T) {
	s := behindhand(t)
	s.wantUnchanged(api.OK, lift(0))
	for _, dc := range noDCs() {
		s.wantUnchanged(api.ErrArg, join(dc, 2), leave(dc, 2))
	}
	s.wantUnchanged(api.ErrThere, join(0, 2))
	s.wantUnchanged(api.ErrNone, leave(1, 2))
	s.wantUnchanged(api.ErrOld, join(1, 1), leave(0, 1))
	for range 3 {
		s.want(known{9, 9, 0, who(0)})
	}
	s.behind(lift(4))
	s.want(known{9, 9, 4, who(0)})
	s.behind(join(1, 2))
	s.want(known{9, 0, 4, who(0, 1)})
}

// Behind a Leave it is looked at, of those that stay.
func TestStableIsLookedAtBehindALeave(t *testing.T) {
	s := behindhand(t)
	s.behind(join(1, 2), leave(1, 3))
	s.want(known{9, 9, 9, who(0)})

	s = behindhand(t)
	s.behind(leave(0, 2))
	s.want(known{local: 9})

	for least := range 4 {
		s := leastTold(t, least, 3, 7)
		s.behind(leave(least, 1))
		s.wantStable(7)
	}
}

// leastTold is a scene of the table of datacenter 0 with four members, of which one is at a lesser time than the others.
func leastTold(t *testing.T, least int, lesser, time uint64) *scene {
	t.Helper()
	s := made(t, 0, 1, who(0, 1, 2, 3))
	for dc := range 4 {
		saying := time
		if dc == least {
			saying = lesser
		}
		if dc == 0 {
			s.behind(beat(0, saying))
		} else {
			s.behind(got(dc, latest), told(dc, 0, saying))
		}
	}
	s.wantStable(lesser)
	return s
}

// Without members Stable stays, whatever is said.
func TestStableWithoutMembers(t *testing.T) {
	for own := range 4 {
		for _, lifted := range []uint64{0, 4} {
			s := made(t, own, 2, who(), lift(lifted))
			for dc := range 4 {
				s.behind(beat(0, 9), beat(1, 9), got(dc, 9), told(dc, 0, 9), told(dc, 3, 9))
				s.wantStable(lifted)
			}
			for _, dc := range noDCs() {
				s.behind(got(dc, 9), told(dc, 0, 9))
				s.wantStable(lifted)
			}
		}
		s := made(t, own, 1, who(own), beat(0, 5), leave(own, 1), beat(0, 9), got(own, 9), told(own, 1, 9))
		s.want(known{local: 9, stable: 5})
	}
}

// saying is a call that tells what somebody knows; whether it counts is whether Stable hangs on it.
type saying struct {
	counts bool
	c      func(t uint64) call
}

// sayings are all that can be told a table of such members.
func sayings(own int, has members) []saying {
	l := []saying{{has[own], func(t uint64) call { return beat(0, t) }}}
	for _, dc := range others(own) {
		l = append(l, saying{has[dc] && has[own], func(t uint64) call { return got(dc, t) }})
		l = append(l, saying{has[dc], func(t uint64) call { return told(dc, 0, t) }})
	}
	return l
}

// The least of what counts stands in each place, and is said ahead of all else or behind it.
func TestStableIsTheLeast(t *testing.T) {
	for own := range 4 {
		for _, has := range allMembers()[1:] {
			l := sayings(own, has)
			for least := range l {
				wantLeastStable(t, own, has, l, least)
			}
		}
	}
}

// wantLeastStable says 7 in one place and 20 in all others.
func wantLeastStable(t *testing.T, own int, has members, l []saying, least int) {
	t.Helper()
	one := l[least]
	ahead, behind := made(t, own, 1, has, one.c(7)), made(t, own, 1, has)
	for i, other := range l {
		if i != least {
			ahead.behind(other.c(20))
			behind.behind(other.c(20))
		}
	}
	if !one.counts {
		ahead.wantStable(20)
		behind.wantStable(20)
		return
	}
	ahead.wantStable(7)
	behind.wantStable(0)
	behind.behind(one.c(7))
	behind.wantStable(7)
	for _, time := range []uint64{6, 7, 8, 19, 20} {
		behind.behind(one.c(time))
		behind.wantStable(max(7, time))
	}
}

// Where the own datacenter is no member, what is applied here isn't asked for: the others' telling alone is.
func TestStableOfWhoIsNoMember(t *testing.T) {
	s := made(t, 3, 4, who(0, 1), told(0, 0, 8))
	s.wantStable(0)
	s.behind(told(1, 0, 6))
	s.want(known{0, 0, 6, who(0, 1)})
	s.behind(got(0, 3), got(1, 4))
	s.want(known{0, 3, 6, who(0, 1)})
	s.behind(join(3, 1), told(0, 1, 9), told(1, 1, 9))
	s.want(known{0, 0, 6, who(0, 1, 3)})
}

// Stable stays where it is when the least is below it.
func TestStableStaysAboveTheLeast(t *testing.T) {
	s := made(t, 0, 1, who(0, 1), lift(10), beat(0, 4), got(1, 5), told(1, 0, 6))
	s.want(known{4, 4, 10, who(0, 1)})
	s.behind(beat(0, 9), got(1, 9), told(1, 0, 9))
	s.want(known{9, 9, 10, who(0, 1)})
	s.behind(beat(0, 10), got(1, 10), told(1, 0, 10))
	s.wantStable(10)
	s.behind(beat(0, 11), got(1, 11), told(1, 0, 11))
	s.wantStable(11)
}

// A Lift below, at and above Stable; nothing else that is told hangs on it.
func TestLift(t *testing.T) {
	for _, has := range allMembers() {
		s := made(t, 2, 1, has, beat(0, 3), got(0, 2), told(0, 0, 1))
		was := look(s.Table)
		for _, c := range []struct{ to, want uint64 }{{0, was.stable}, {5, 5}, {4, 5}, {5, 5}, {0, 5}, {6, 6}, {1 << 63, 1 << 63}, {1<<63 - 1, 1 << 63}, {latest, latest}, {0, latest}, {latest - 1, latest}} {
			s.behind(lift(c.to))
			was.stable = c.want
			s.want(was)
		}
	}
}
