package stab_test

import (
	"testing"

	"confluence/api"
)

// others are the datacenters but one.
func others(but int) []int {
	var l []int
	for dc := range 4 {
		if dc != but {
			l = append(l, dc)
		}
	}
	return l
}

// all is a scene of a table of all four members whose node has beaten at a time; what else has been said is of that time too, but of one other member.
func all(t *testing.T, own int, time uint64, but int) *scene {
	t.Helper()
	s := made(t, own, 1, who(0, 1, 2, 3), beat(0, time))
	for _, dc := range others(own) {
		if dc != but {
			s.behind(got(dc, time), told(dc, 0, time))
		}
	}
	return s
}

// Got of each other member below, at and above what it was; with it all else is at 20.
func TestGotOfEachOtherMember(t *testing.T) {
	for own := range 4 {
		for _, dc := range others(own) {
			s := all(t, own, 20, dc)
			s.behind(told(dc, 0, 20))
			s.want(known{20, 0, 0, who(0, 1, 2, 3)})
			for _, c := range []struct{ to, want uint64 }{{0, 0}, {5, 5}, {4, 5}, {5, 5}, {0, 5}, {6, 6}, {19, 19}, {20, 20}, {19, 20}, {21, 20}, {latest, 20}} {
				s.behind(got(dc, c.to))
				s.want(known{20, c.want, c.want, who(0, 1, 2, 3)})
			}
			s.behind(beat(0, latest))
			s.want(known{latest, 20, 20, who(0, 1, 2, 3)})
		}
	}
}

// What one said raises nothing of another one.
func TestGotsAreApart(t *testing.T) {
	s := made(t, 3, 1, who(0, 1, 2, 3), beat(0, 9), got(0, 4), got(1, 3), got(2, 2))
	s.wantApplied(2)
	s.behind(got(2, latest))
	s.wantApplied(3)
	s.behind(got(1, latest))
	s.wantApplied(4)
	s.behind(got(0, latest))
	s.wantApplied(9)
	s.behind(beat(0, latest))
	s.wantApplied(latest)
	s.wantStable(0)
}

// Of the own datacenter nothing is got, be it a member or not: Local alone says what is applied of it.
func TestGotOfTheOwnDatacenter(t *testing.T) {
	for own := range 4 {
		for _, time := range moments() {
			alone := made(t, own, 1, who(own))
			alone.wantUnchanged(api.OK, got(own, time))
			alone.behind(beat(0, 5))
			alone.wantUnchanged(api.OK, got(own, time))
			alone.want(known{5, 5, 5, who(own)})

			later := made(t, own, 1, without(who(0, 1, 2, 3), own))
			later.wantUnchanged(api.OK, got(own, time))
			later.behind(join(own, 1))
			later.wantUnchanged(api.OK, got(own, time))
			for dc := range 4 {
				later.behind(got(dc, 8))
			}
			later.want(known{has: who(0, 1, 2, 3)})
			later.behind(beat(0, 5))
			later.want(known{5, 5, 0, who(0, 1, 2, 3)})
		}
	}
}

// Of others than members, and of no datacenter, nothing is got.
func TestGotOfOthersThanMembers(t *testing.T) {
	for own := range 4 {
		for _, has := range allMembers() {
			s := made(t, own, 1, has, beat(0, 6))
			for dc := range 4 {
				if dc != own && has[dc] {
					s.behind(got(dc, 6), told(dc, 0, 6))
				}
			}
			for dc := range 4 {
				if dc != own && !has[dc] {
					s.wantUnchanged(api.OK, got(dc, 0), got(dc, 5), got(dc, 6), got(dc, 7), got(dc, latest))
				}
			}
			for _, dc := range noDCs() {
				s.wantUnchanged(api.OK, got(dc, 0), got(dc, 5), got(dc, 7), got(dc, latest))
			}
		}
	}
}

// What was said of one ahead of its joining doesn't count.
func TestGotAheadOfAJoin(t *testing.T) {
	for _, dc := range others(0) {
		s := made(t, 0, 1, who(0), beat(0, 9), got(dc, 8))
		s.want(known{9, 9, 9, who(0)})
		s.behind(join(dc, 1))
		s.want(known{9, 0, 9, who(0, dc)})
		s.behind(got(dc, 3))
		s.want(known{9, 3, 9, who(0, dc)})
	}
}

// Applied where the own datacenter is a member, where it is none, and without members; the least stands in each place.
func TestAppliedIsTheLeast(t *testing.T) {
	for own := range 4 {
		for _, has := range allMembers() {
			for least := range 4 {
				for _, time := range []uint64{1, 6, 7, 1 << 63, latest} {
					wantLeastApplied(t, own, has, least, time)
				}
			}
		}
	}
}

// wantLeastApplied says of one datacenter a time, and of the others greater ones; of those that are no members lesser ones.
func wantLeastApplied(t *testing.T, own int, has members, least int, time uint64) {
	t.Helper()
	s := made(t, own, 1, has)
	want := uint64(0)
	for dc, is := range has {
		saying := max(time, time+uint64(dc))
		if dc == least {
			saying = time
		}
		if !is {
			saying = 0
		} else if want == 0 || saying < want {
			want = saying
		}
		if dc == own {
			s.behind(beat(0, saying))
		} else {
			s.behind(got(dc, saying))
		}
	}
	s.wantApplied(want)
}

func TestAppliedWithoutMembers(t *testing.T) {
	for own := range 4 {
		s := made(t, own, 1, who(), beat(0, 9))
		s.want(known{local: 9})
		for dc := range 4 {
			s.behind(got(dc, 9), told(dc, 0, 9))
		}
		s.want(known{local: 9})
		last := made(t, own, 1, who(own), beat(0, 9), leave(own, 1))
		last.want(known{local: 9, stable: 9})
	}
}
