package stab_test

import (
	"testing"

	"confluence/api"
)

// Each error of a Join, in their order: epochs that are old don't matter to one that is a member, nor either to no datacenter.
func TestJoinErrors(t *testing.T) {
	for own := range 4 {
		for _, has := range allMembers() {
			s := made(t, own, 1, has, beat(0, 9))
			for _, epoch := range epochs() {
				for _, dc := range noDCs() {
					s.wantUnchanged(api.ErrArg, join(dc, epoch))
				}
				for dc := range 4 {
					if has[dc] {
						s.wantUnchanged(api.ErrThere, join(dc, epoch))
					} else if epoch <= 0 {
						s.wantUnchanged(api.ErrOld, join(dc, epoch))
					}
				}
			}
		}
	}
}

// Epochs below, at and above that of the last change, be it a joining or a leaving.
func TestJoinOfAnEpoch(t *testing.T) {
	for own := range 4 {
		for _, change := range []call{join(1, 5), leave(0, 5)} {
			for _, dc := range []int{2, 3} {
				for _, epoch := range []int{lowest, -1, 0, 1, 4, 5} {
					made(t, own, 1, who(0), change).wantUnchanged(api.ErrOld, join(dc, epoch))
				}
				for _, epoch := range []int{6, 7, highest} {
					s := made(t, own, 1, who(0), change)
					has := s.Members()
					has[dc] = true
					s.behind(join(dc, epoch))
					s.want(known{has: has})
				}
			}
		}
	}
}

// A joining's epoch is that of the last change for what comes behind it.
func TestJoinIsAChange(t *testing.T) {
	s := made(t, 0, 1, who(0), join(1, 3))
	s.wantUnchanged(api.ErrOld, join(2, 2), join(2, 3), leave(1, 2), leave(1, 3), leave(0, 3))
	s.wantUnchanged(api.ErrThere, join(1, 3), join(1, 4))
	s.behind(join(2, 4))
	s.wantUnchanged(api.ErrOld, join(3, 4), leave(2, 4))
	s.behind(leave(2, 5), join(3, highest))
	s.wantUnchanged(api.ErrOld, join(2, highest), leave(3, highest))
	s.want(known{has: who(0, 1, 3)})
}

// A joining that is refused leaves the epochs, and what was told, as they were.
func TestRefusedJoinChangesNothing(t *testing.T) {
	s := made(t, 0, 1, who(0, 1, 2), beat(0, 9), got(1, 9), got(2, 9), told(1, 0, 8), leave(1, 5))
	s.wantUnchanged(api.ErrArg, join(-1, 9), join(4, 9))
	s.wantUnchanged(api.ErrThere, join(0, 9), join(2, 9))
	s.wantUnchanged(api.ErrOld, join(1, 5), join(3, 4))
	s.behind(told(2, 0, 7))
	s.want(known{9, 9, 7, who(0, 2)})
	s.behind(join(1, 6))
	s.want(known{9, 0, 7, who(0, 1, 2)})
}

// fullButOne is a scene of all datacenters but one, of which each is at times of its own.
func fullButOne(t *testing.T, own, missing int) *scene {
	t.Helper()
	s := made(t, own, 1, without(who(0, 1, 2, 3), missing), beat(0, 50))
	for _, dc := range others(own) {
		s.behind(got(dc, 10+uint64(dc)), told(dc, 0, 30+uint64(dc)))
	}
	return s
}

// A joining keeps the beats, the others' Got and Stable, and begins with a Got of nought.
func TestJoinKeepsWhatWasGot(t *testing.T) {
	for own := range 4 {
		for _, missing := range others(own) {
			for _, kept := range others(own) {
				s := fullButOne(t, own, missing)
				stable := s.Stable()
				s.behind(join(missing, 1))
				s.want(known{50, 0, stable, who(0, 1, 2, 3)})
				for _, dc := range others(own) {
					if dc != kept {
						s.behind(got(dc, latest))
					}
				}
				want := 10 + uint64(kept)
				if kept == missing {
					want = 0
				}
				s.want(known{50, want, stable, who(0, 1, 2, 3)})
			}
		}
	}
}

// The own datacenter's beats count as soon as it joins.
func TestJoinOfTheOwnDatacenter(t *testing.T) {
	for own := range 4 {
		least := uint64(50)
		s := fullButOne(t, own, own)
		for _, dc := range others(own) {
			least = min(least, 10+uint64(dc))
		}
		s.want(known{50, least, least + 20, without(who(0, 1, 2, 3), own)})
		s.behind(join(own, 1))
		s.want(known{50, least, least + 20, who(0, 1, 2, 3)})
		for _, dc := range others(own) {
			s.behind(got(dc, 70))
		}
		s.want(known{50, 50, least + 20, who(0, 1, 2, 3)})
		for _, dc := range others(own) {
			s.wantStable(least + 20)
			s.behind(told(dc, 1, 60))
		}
		s.want(known{50, 50, 50, who(0, 1, 2, 3)})
	}
}

// All that was told is forgotten, whoever told it: of each member it has to be told anew ahead of Stable's rising.
func TestJoinForgetsAllThatWasTold(t *testing.T) {
	for own := range 4 {
		for missing := range 4 {
			for _, silent := range others(own) {
				s := fullButOne(t, own, missing)
				for _, dc := range others(own) {
					s.behind(told(dc, 0, 80))
				}
				s.behind(join(missing, 1), beat(0, latest))
				stable := s.Stable()
				for _, dc := range others(own) {
					s.behind(got(dc, latest))
				}
				for _, dc := range others(own) {
					if dc != silent {
						s.behind(told(dc, 1, latest))
					}
				}
				s.wantStable(stable)
				s.behind(told(silent, 1, 90))
				s.wantStable(90)
			}
		}
	}
}

// One that leaves and joins again begins anew.
func TestJoinAgain(t *testing.T) {
	for _, dc := range others(0) {
		s := made(t, 0, 1, who(0, 1, 2, 3), beat(0, 9))
		for _, other := range others(0) {
			s.behind(got(other, 9), told(other, 0, 9))
		}
		s.want(known{9, 9, 9, who(0, 1, 2, 3)})
		s.behind(leave(dc, 1), got(dc, 20), told(dc, 1, 20), beat(0, 20), join(dc, 2))
		s.want(known{20, 0, 9, who(0, 1, 2, 3)})
		for _, other := range others(0) {
			if other != dc {
				s.behind(got(other, 20), told(other, 2, 20))
			}
		}
		s.want(known{20, 0, 9, who(0, 1, 2, 3)})
		s.behind(got(dc, 15))
		s.want(known{20, 15, 9, who(0, 1, 2, 3)})
		s.behind(told(dc, 2, 14))
		s.want(known{20, 15, 14, who(0, 1, 2, 3)})
	}
	own := made(t, 0, 1, who(0, 1), beat(0, 9), got(1, 8), told(1, 0, 7), leave(0, 1))
	own.want(known{9, 8, 7, who(1)})
	own.behind(join(0, 2))
	own.want(known{9, 8, 7, who(0, 1)})
	own.behind(told(1, 2, 12))
	own.want(known{9, 8, 8, who(0, 1)})
}
