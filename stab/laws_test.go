package stab_test

import (
	"slices"
	"testing"

	"confluence/api"
)

// wantNotFallen wants that nothing fell by a call but what may: Applied by a Join, or when nobody counts any more, since it is nought then.
func wantNotFallen(s *scene, c call, was known) {
	s.Helper()
	is := look(s.Table)
	if is.local < was.local {
		s.Errorf("P12.2: behind %s Local falls from %d to %d", s.story(), was.local, is.local)
	}
	if is.stable < was.stable {
		s.Errorf("P12.2: behind %s Stable falls from %d to %d", s.story(), was.stable, is.stable)
	}
	if is.applied < was.applied && c.name != "Join" && is.has != who() {
		s.Errorf("P12.2: behind %s Applied falls from %d to %d", s.story(), was.applied, is.applied)
	}
}

func TestLocalAndStableNeverFall(t *testing.T) {
	falls := 0
	longRuns(t, 71, 400, 500, func(s *scene, c call, e api.Errno, was known) {
		wantNotFallen(s, c, was)
		if s.Applied() < was.applied {
			falls++
		}
	})
	if falls < 300 {
		t.Errorf("P12.2: in long runs Applied fell by Joins but %d times", falls)
	}
}

// By each kind of call, with times below all that are known, nothing falls; by a Join Applied alone does.
func TestWhatFallsByEachCall(t *testing.T) {
	for own := range 4 {
		for _, joins := range others(own) {
			s := made(t, own, 1, without(who(0, 1, 2, 3), joins), beat(0, 9))
			for _, dc := range others(own) {
				s.behind(got(dc, 8), told(dc, 0, 7))
			}
			was := known{9, 8, 7, without(who(0, 1, 2, 3), joins)}
			s.promise = "P12.2"
			s.want(was)
			for dc := range 4 {
				s.wantUnchanged(api.OK, beat(dc, 0), got(dc, 0), told(dc, 0, 0), lift(0), beat(dc, 3), got(dc, 3), told(dc, 0, 3), lift(3))
			}
			s.behind(join(joins, 1))
			s.want(known{9, 0, 7, who(0, 1, 2, 3)})
			s.behind(leave(joins, 2))
			s.want(was)
		}
	}
}

// heard is what each datacenter told since the last join, and how far Stable may be for other causes: how far it was ahead of that join, and how far it was lifted.
type heard struct {
	own, joined int
	told        map[int]uint64
	free        uint64
}

// hear goes on by a call that has been made; was is what was known ahead of it.
func (h *heard) hear(c call, e api.Errno, was known) {
	switch {
	case e != api.OK:
	case c.name == "Lift":
		h.free = max(h.free, c.time)
	case c.name == "Join":
		h.joined, h.told, h.free = c.epoch, map[int]uint64{}, max(h.free, was.stable)
	case c.name == "Told" && c.epoch >= h.joined:
		h.told[c.at] = max(h.told[c.at], c.time)
	}
}

// wantHeard wants that Stable isn't above what each member had told, nor, where the own datacenter is a member, above what is applied here.
func (h *heard) wantHeard(s *scene) {
	s.Helper()
	has := s.Members()
	stable := s.Stable()
	if stable <= h.free {
		return
	}
	for dc, is := range has {
		if is && dc != h.own && stable > h.told[dc] {
			s.Errorf("P12.3: behind %s Stable is %d, and %d had told but %d since the last join", s.story(), stable, dc, h.told[dc])
		}
	}
	if has[h.own] && stable > s.Applied() {
		s.Errorf("P12.3: behind %s Stable is %d, and Applied but %d", s.story(), stable, s.Applied())
	}
}

func TestStableIsNeverAboveWhatWasTold(t *testing.T) {
	n, bound := numbers(81), 0
	for range 300 {
		has, own, nodes := allMembers()[n.below(16)], n.below(4), 1+n.below(2)
		p, s := newPlain(own, nodes, has), made(t, own, nodes, has)
		h := &heard{own: own, told: map[int]uint64{}}
		for range 500 {
			c := anyCall(&n, p)
			if c.name == "Lift" && n.below(4) > 0 {
				continue
			}
			was := look(s.Table)
			e := p.of(c)
			s.refused(c, e)
			h.hear(c, e, was)
			h.wantHeard(s)
			if s.Stable() > max(h.free, was.stable) && slices.Contains(others(own), c.at) {
				bound++
			}
		}
		if t.Failed() {
			return
		}
	}
	if bound < 2000 {
		t.Errorf("P12.3: in long runs Stable rose by what was told but %d times", bound)
	}
}

// What was told ahead of a join lets Stable rise no more, however late it comes and whoever told it.
func TestStableDoesNotRiseByWhatWasToldAheadOfAJoin(t *testing.T) {
	for own := range 4 {
		for _, joins := range others(own) {
			s := made(t, own, 1, without(who(0, 1, 2, 3), joins), beat(0, 20))
			for _, dc := range others(own) {
				s.behind(got(dc, 5), told(dc, 0, 20))
			}
			s.promise = "P12.3"
			s.wantStable(5)
			s.behind(join(joins, 4))
			for _, dc := range others(own) {
				s.behind(got(dc, 20), told(dc, 0, 20), told(dc, 3, 20))
			}
			s.want(known{20, 20, 5, who(0, 1, 2, 3)})
			for _, dc := range others(own) {
				s.wantStable(5)
				s.behind(told(dc, 4, 12))
			}
			s.wantStable(12)
		}
	}
}
