package stab_test

import (
	"testing"

	"confluence/api"
)

// Each error of a Leave, in their order: epochs that are old don't matter to one that is no member, nor either to no datacenter.
func TestLeaveErrors(t *testing.T) {
	for own := range 4 {
		for _, has := range allMembers() {
			s := made(t, own, 1, has, beat(0, 9))
			for _, epoch := range epochs() {
				for _, dc := range noDCs() {
					s.wantUnchanged(api.ErrArg, leave(dc, epoch))
				}
				for dc := range 4 {
					if !has[dc] {
						s.wantUnchanged(api.ErrNone, leave(dc, epoch))
					} else if epoch <= 0 {
						s.wantUnchanged(api.ErrOld, leave(dc, epoch))
					}
				}
			}
		}
	}
}

// Epochs below, at and above that of the last change, be it a joining or a leaving.
func TestLeaveOfAnEpoch(t *testing.T) {
	for own := range 4 {
		for _, change := range []call{join(1, 5), leave(0, 5)} {
			for _, dc := range []int{2, 3} {
				for _, epoch := range []int{lowest, -1, 0, 1, 4, 5} {
					made(t, own, 1, who(0, 2, 3), change).wantUnchanged(api.ErrOld, leave(dc, epoch))
				}
				for _, epoch := range []int{6, 7, highest} {
					s := made(t, own, 1, who(0, 2, 3), change)
					has := without(s.Members(), dc)
					s.behind(leave(dc, epoch))
					s.want(known{has: has})
				}
			}
		}
	}
}

// A leaving's epoch is that of the last change for what comes behind it.
func TestLeaveIsAChange(t *testing.T) {
	s := made(t, 0, 1, who(0, 1, 2, 3), leave(1, 3))
	s.wantUnchanged(api.ErrOld, leave(2, 2), leave(2, 3), join(1, 2), join(1, 3))
	s.wantUnchanged(api.ErrNone, leave(1, 3), leave(1, 4))
	s.behind(leave(2, 4))
	s.wantUnchanged(api.ErrOld, leave(3, 4), join(2, 4))
	s.behind(join(2, 5), leave(3, highest))
	s.wantUnchanged(api.ErrOld, leave(2, highest), join(3, highest))
	s.want(known{has: who(0, 2)})
}

// A leaving that is refused leaves the epochs as they were, and all that is known.
func TestRefusedLeaveChangesNothing(t *testing.T) {
	s := made(t, 0, 1, who(0, 1, 2), beat(0, 9), got(1, 8), got(2, 9), told(1, 0, 3), join(3, 5), got(3, 9))
	s.wantUnchanged(api.ErrArg, leave(-1, 9), leave(4, 9))
	s.wantUnchanged(api.ErrOld, leave(0, 5), leave(1, 5), leave(2, 4), leave(3, 0))
	s.behind(leave(3, 6))
	s.wantUnchanged(api.ErrNone, leave(3, 9))
	s.behind(told(1, 5, 7), told(2, 5, 7), leave(2, 7))
	s.want(known{9, 8, 7, who(0, 1)})
}

// wantKept wants that of one that stays both times are kept: all others go on to the latest time, so that these are the least.
func wantKept(t *testing.T, own, leaver, kept int) {
	t.Helper()
	s := made(t, own, 1, who(0, 1, 2, 3), beat(0, 50))
	for _, dc := range others(own) {
		s.behind(got(dc, 20+uint64(dc)), told(dc, 0, 10+uint64(dc)))
	}
	s.behind(leave(leaver, 1))
	has := without(who(0, 1, 2, 3), leaver)
	for _, dc := range others(own) {
		if dc != kept {
			s.behind(got(dc, latest), told(dc, 0, latest))
		}
	}
	s.want(known{50, 20 + uint64(kept), 10 + uint64(kept), has})
	s.behind(told(kept, 0, latest))
	stable := 20 + uint64(kept)
	if leaver == own {
		stable = latest
	}
	s.want(known{50, 20 + uint64(kept), stable, has})
}

func TestLeaveKeepsWhoStays(t *testing.T) {
	for own := range 4 {
		for leaver := range 4 {
			for _, kept := range others(own) {
				if kept != leaver {
					wantKept(t, own, leaver, kept)
				}
			}
		}
	}
}

// What the leaver had got and told doesn't count any more: with the least times it holds nothing back.
func TestLeaverDoesNotCount(t *testing.T) {
	for _, leaver := range others(0) {
		s := all(t, 0, 20, leaver)
		s.behind(got(leaver, 5), told(leaver, 0, 3))
		s.want(known{20, 5, 3, who(0, 1, 2, 3)})
		s.behind(leave(leaver, 1))
		s.want(known{20, 20, 20, without(who(0, 1, 2, 3), leaver)})
		s.wantUnchanged(api.OK, got(leaver, latest), told(leaver, 1, latest), got(leaver, 0), told(leaver, 1, 0))
	}
}

// When the own datacenter leaves, neither its beats nor what is applied here holds Stable back.
func TestLeaveOfTheOwnDatacenter(t *testing.T) {
	for own := range 4 {
		s := made(t, own, 1, who(0, 1, 2, 3), beat(0, 2))
		for _, dc := range others(own) {
			s.behind(got(dc, 6), told(dc, 0, 8))
		}
		s.want(known{2, 2, 2, who(0, 1, 2, 3)})
		s.behind(leave(own, 4))
		s.want(known{2, 6, 8, without(who(0, 1, 2, 3), own)})
		s.behind(beat(0, 3))
		s.want(known{3, 6, 8, without(who(0, 1, 2, 3), own)})
	}
}

// Behind the last member's leaving nothing is applied, and Stable stays.
func TestLeaveOfTheLastMember(t *testing.T) {
	for own := range 4 {
		for last := range 4 {
			s := made(t, own, 1, who(last), beat(0, 9), got(last, 9), told(last, 0, 9))
			s.want(known{9, 9, 9, who(last)})
			s.behind(leave(last, 1))
			s.want(known{9, 0, 9, who()})
			s.behind(beat(0, 20), got(last, 20), told(last, 1, 20))
			s.want(known{20, 0, 9, who()})
			s.wantUnchanged(api.ErrNone, leave(last, 2))
			s.behind(join(last, 2))
			if own == last {
				s.want(known{20, 20, 9, who(last)})
			} else {
				s.want(known{20, 0, 9, who(last)})
			}
		}
	}
}

// All leave one by one, in any order, and each that holds Stable back lets it rise.
func TestAllLeave(t *testing.T) {
	for first := range 4 {
		s := leastTold(t, first, 2, 6)
		for i := range 4 {
			s.wantStable(min(6, 2+4*uint64(i)))
			s.behind(leave((first+i)%4, i+1))
		}
		s.wantStable(6)
		s.wantApplied(0)
	}
}
