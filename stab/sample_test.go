package stab_test

import (
	"fmt"
	"math"
	"strings"
	"testing"

	"confluence/api"
	"confluence/stab"
)

const (
	latest  = math.MaxUint64
	highest = math.MaxInt
	lowest  = math.MinInt
)

// members tells of each datacenter whether it counts.
type members = [4]bool

// who are the members of these numbers.
func who(dcs ...int) members {
	var has members
	for _, dc := range dcs {
		has[dc] = true
	}
	return has
}

// without are the members without one.
func without(has members, dc int) members {
	has[dc] = false
	return has
}

// allMembers are all the ways to be members.
func allMembers() []members {
	var l []members
	for bits := range 16 {
		l = append(l, members{bits&1 != 0, bits&2 != 0, bits&4 != 0, bits&8 != 0})
	}
	return l
}

// noDCs are numbers of no datacenter.
func noDCs() []int {
	return []int{-1, -2, -4, lowest, lowest + 3, 4, 5, 8, 1 << 32, 1<<32 + 1, highest}
}

// epochs are some that are nought, below it, and at both ends.
func epochs() []int { return []int{lowest, lowest + 1, -7, -1, 0, 1, 2, 9, highest - 1, highest} }

// moments are times at both ends and in the midst.
func moments() []uint64 {
	return []uint64{0, 1, 2, 5, 1<<16 - 1, 1 << 32, 1<<63 - 1, 1 << 63, latest - 1, latest}
}

// numbers is a row of numbers that is the same each time.
type numbers uint64

func (n *numbers) next() uint64 {
	*n = *n*6364136223846793005 + 1442695040888963407
	x := uint64(*n)
	return (x ^ x>>29) * 0x9e3779b97f4a7c15
}

func (n *numbers) below(bound int) int { return int(n.next() >> 12 % uint64(bound)) }

// call is one call that hands something to a table: at is a node's number, or a datacenter's.
type call struct {
	name      string
	at, epoch int
	time      uint64
}

func beat(node int, t uint64) call      { return call{name: "Beat", at: node, time: t} }
func got(dc int, t uint64) call         { return call{name: "Got", at: dc, time: t} }
func told(dc, epoch int, t uint64) call { return call{name: "Told", at: dc, epoch: epoch, time: t} }
func lift(t uint64) call                { return call{name: "Lift", time: t} }
func join(dc, epoch int) call           { return call{name: "Join", at: dc, epoch: epoch} }
func leave(dc, epoch int) call          { return call{name: "Leave", at: dc, epoch: epoch} }

func (c call) String() string {
	switch c.name {
	case "Lift":
		return fmt.Sprintf("Lift(%d)", c.time)
	case "Join", "Leave":
		return fmt.Sprintf("%s(%d, %d)", c.name, c.at, c.epoch)
	case "Told":
		return fmt.Sprintf("Told(%d, %d, %d)", c.at, c.epoch, c.time)
	}
	return fmt.Sprintf("%s(%d, %d)", c.name, c.at, c.time)
}

// of makes the call; those that answer nothing have no error.
func (c call) of(b *stab.Table) api.Errno {
	switch c.name {
	case "Beat":
		b.Beat(c.at, c.time)
	case "Got":
		b.Got(c.at, c.time)
	case "Told":
		b.Told(c.at, c.epoch, c.time)
	case "Lift":
		b.Lift(c.time)
	case "Join":
		return b.Join(c.at, c.epoch)
	case "Leave":
		return b.Leave(c.at, c.epoch)
	}
	return api.OK
}

// known is all that a table tells.
type known struct {
	local, applied, stable uint64
	has                    members
}

func look(b *stab.Table) known {
	return known{b.Local(), b.Applied(), b.Stable(), b.Members()}
}

func (k known) String() string {
	var dcs strings.Builder
	for dc, is := range k.has {
		if is {
			fmt.Fprint(&dcs, dc)
		}
	}
	return fmt.Sprintf("local %d, applied %d, stable %d, members {%s}", k.local, k.applied, k.stable, dcs.String())
}

// scene is a table, and what was done with it.
type scene struct {
	*testing.T
	*stab.Table
	promise string
	done    []string
}

// made is a scene of a new table behind these calls, none of which has an error.
func made(t *testing.T, dc, nodes int, has members, calls ...call) *scene {
	t.Helper()
	b, e := stab.New(dc, nodes, has)
	if b == nil || e != api.OK {
		t.Fatalf("P12.1: New(%d, %d, %v) has error %d", dc, nodes, has, e)
	}
	s := &scene{t, b, "P12.1", []string{fmt.Sprintf("New(%d, %d, %v)", dc, nodes, has)}}
	s.behind(calls...)
	return s
}

// behind makes calls, none of which has an error.
func (s *scene) behind(calls ...call) {
	s.Helper()
	for _, c := range calls {
		s.refused(c, api.OK)
	}
}

// refused makes a call and wants its error.
func (s *scene) refused(c call, want api.Errno) {
	s.Helper()
	s.done = append(s.done, c.String())
	if e := c.of(s.Table); e != want {
		s.Errorf("%s: %s has error %d, not %d", s.promise, s.story(), e, want)
	}
}

func (s *scene) story() string { return strings.Join(s.done[max(0, len(s.done)-30):], ", ") }

func (s *scene) want(want known) {
	s.Helper()
	if is := look(s.Table); is != want {
		s.Errorf("%s: behind %s the table tells %s, not %s", s.promise, s.story(), is, want)
	}
}

func (s *scene) wantLocal(want uint64) {
	s.Helper()
	if is := s.Local(); is != want {
		s.Errorf("%s: behind %s Local is %d, not %d", s.promise, s.story(), is, want)
	}
}

func (s *scene) wantApplied(want uint64) {
	s.Helper()
	if is := s.Applied(); is != want {
		s.Errorf("%s: behind %s Applied is %d, not %d", s.promise, s.story(), is, want)
	}
}

func (s *scene) wantStable(want uint64) {
	s.Helper()
	if is := s.Stable(); is != want {
		s.Errorf("%s: behind %s Stable is %d, not %d", s.promise, s.story(), is, want)
	}
}

// wantUnchanged makes calls, that have this error each, and wants that nothing that is told changes by them.
func (s *scene) wantUnchanged(e api.Errno, calls ...call) {
	s.Helper()
	was := look(s.Table)
	for _, c := range calls {
		s.refused(c, e)
		s.want(was)
	}
}
