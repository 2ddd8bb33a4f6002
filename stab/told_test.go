package stab_test

import (
	"testing"

	"confluence/api"
)

// Told of each other member below, at and above what it was; with it all else is at 20.
func TestToldOfEachOtherMember(t *testing.T) {
	for own := range 4 {
		for _, dc := range others(own) {
			s := all(t, own, 20, dc)
			s.behind(got(dc, 20))
			s.want(known{20, 20, 0, who(0, 1, 2, 3)})
			for _, c := range []struct{ to, want uint64 }{{0, 0}, {5, 5}, {4, 5}, {5, 5}, {0, 5}, {6, 6}, {19, 19}, {20, 20}, {19, 20}, {21, 20}, {latest, 20}} {
				s.behind(told(dc, 0, c.to))
				s.want(known{20, 20, c.want, who(0, 1, 2, 3)})
			}
		}
	}
}

// What was told once isn't told less: a lesser time behind it takes nothing away from what Stable can rise to.
func TestToldBelowTakesNothingAway(t *testing.T) {
	s := made(t, 0, 1, who(0, 1, 2), got(1, 9), got(2, 9), told(1, 0, 9), told(1, 0, 3), told(2, 0, 8), told(2, 0, 0))
	s.wantStable(0)
	s.behind(beat(0, 9))
	s.want(known{9, 9, 8, who(0, 1, 2)})
}

// What one told raises nothing of another one, nor what is got.
func TestToldsAreApart(t *testing.T) {
	s := made(t, 3, 1, who(0, 1, 2, 3), beat(0, 9), got(0, 9), got(1, 9), got(2, 9), told(0, 0, 4), told(1, 0, 3), told(2, 0, 2))
	s.wantStable(2)
	s.behind(told(2, 0, latest))
	s.wantStable(3)
	s.behind(told(1, 0, latest))
	s.wantStable(4)
	s.behind(told(0, 0, latest))
	s.want(known{9, 9, 9, who(0, 1, 2, 3)})
}

// heardBehind is a scene of two members behind a join by an epoch, in which all but the other one's telling is at 9.
func heardBehind(t *testing.T, epoch int) *scene {
	t.Helper()
	return made(t, 0, 1, who(0), beat(0, 9), got(1, 9), join(1, epoch), got(1, 20), beat(0, 20))
}

func TestToldOfAnEpoch(t *testing.T) {
	for _, joined := range []int{1, 2, 7, highest - 1, highest} {
		for _, epoch := range []int{lowest, -1, 0, 1, 2, 6, 7, 8, joined - 1, joined, joined + 1, highest} {
			s := heardBehind(t, joined)
			s.want(known{20, 20, 9, who(0, 1)})
			if epoch < joined {
				s.wantUnchanged(api.OK, told(1, epoch, 15), told(1, epoch, latest))
				continue
			}
			s.behind(told(1, epoch, 15))
			s.want(known{20, 20, 15, who(0, 1)})
		}
	}
}

// It is the last join's epoch that counts, not that of the last change: neither that of a leaving behind it nor that of an earlier join.
func TestToldOfTheLastJoin(t *testing.T) {
	s := made(t, 0, 1, who(0), beat(0, 9), join(1, 3), join(2, 5), join(3, 7), got(1, 9), got(2, 9), got(3, 9))
	s.behind(leave(3, 11))
	s.wantUnchanged(api.OK, told(1, 3, 9), told(1, 5, 9), told(1, 6, 9), told(2, 3, 9), told(2, 5, 9), told(2, 6, 9))
	s.behind(beat(0, 12), got(1, 12), got(2, 12))
	s.behind(told(1, 7, 10), told(2, 8, 11))
	s.want(known{12, 12, 10, who(0, 1, 2)})
	s.behind(told(1, 10, 12))
	s.wantStable(11)
	s.behind(leave(2, 12), join(2, 20), got(2, 30), beat(0, 30), got(1, 30))
	s.wantUnchanged(api.OK, told(1, 7, 30), told(2, 12, 30), told(1, 19, 30), told(2, 19, 30))
	s.behind(told(1, 20, 30), told(2, 20, 29))
	s.wantStable(29)
}

// A joining that was refused has no epoch.
func TestToldBehindARefusedJoin(t *testing.T) {
	s := made(t, 0, 1, who(0, 1), beat(0, 9), got(1, 9))
	s.wantUnchanged(api.ErrThere, join(1, 5), join(0, 6))
	s.wantUnchanged(api.ErrArg, join(4, 7), join(-1, 8))
	s.behind(leave(1, 4))
	s.wantUnchanged(api.ErrOld, join(1, 4), join(1, 3))
	s.wantStable(9)
	s = made(t, 0, 1, who(0, 1), beat(0, 9), got(1, 9))
	s.refused(join(1, 5), api.ErrThere)
	s.refused(join(2, 0), api.ErrOld)
	s.refused(join(2, -1), api.ErrOld)
	s.behind(told(1, 0, 8))
	s.wantStable(8)
}

// What the own datacenter tells of itself is nothing: what it has applied is known.
func TestToldOfTheOwnDatacenter(t *testing.T) {
	for own := range 4 {
		for _, time := range moments() {
			for _, epoch := range epochs() {
				s := made(t, own, 1, who(0, 1, 2, 3), beat(0, 5))
				for _, dc := range others(own) {
					s.behind(got(dc, 9), told(dc, 0, 9))
				}
				s.want(known{5, 5, 5, who(0, 1, 2, 3)})
				s.wantUnchanged(api.OK, told(own, epoch, time))
				s.behind(beat(0, 7))
				s.want(known{7, 7, 7, who(0, 1, 2, 3)})
				s.behind(leave(own, 1))
				s.wantStable(9)
				s.wantUnchanged(api.OK, told(own, epoch, time))
			}
		}
	}
}

// What others than members tell, and what no datacenter does, is nothing.
func TestToldOfOthersThanMembers(t *testing.T) {
	for own := range 4 {
		for _, has := range allMembers() {
			s := made(t, own, 1, has, beat(0, 9))
			for dc := range 4 {
				if dc != own && has[dc] {
					s.behind(got(dc, 9), told(dc, 0, 6))
				}
			}
			for _, epoch := range []int{-1, 0, 1, highest} {
				for dc := range 4 {
					if dc != own && !has[dc] {
						s.wantUnchanged(api.OK, told(dc, epoch, 0), told(dc, epoch, 5), told(dc, epoch, 7), told(dc, epoch, latest))
					}
				}
				for _, dc := range noDCs() {
					s.wantUnchanged(api.OK, told(dc, epoch, 0), told(dc, epoch, 7), told(dc, epoch, latest))
				}
			}
		}
	}
}

// What one told ahead of its joining doesn't count, by whatever epoch.
func TestToldAheadOfAJoin(t *testing.T) {
	s := made(t, 0, 1, who(0), beat(0, 9), told(1, 0, 20), told(1, 1, 20), told(1, highest, 20))
	s.want(known{9, 9, 9, who(0)})
	s.behind(join(1, 1), got(1, 20), beat(0, 20))
	s.want(known{20, 20, 9, who(0, 1)})
	s.behind(told(1, 1, 12))
	s.wantStable(12)
}
