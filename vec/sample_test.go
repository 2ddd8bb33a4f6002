package vec_test

import (
	"fmt"
	"math"
	"strings"
	"testing"

	"confluence/api"
	"confluence/vec"
)

const (
	latest  = math.MaxUint64
	highest = math.MaxInt
	lowest  = math.MinInt
)

// members tells of each datacenter whether it counts.
type members = [4]bool

// numbers is a row of numbers that is the same each time.
type numbers uint64

func (n *numbers) next() uint64 {
	*n = *n*6364136223846793005 + 1442695040888963407
	x := uint64(*n)
	return (x ^ x>>29) * 0x9e3779b97f4a7c15
}

func (n *numbers) below(bound int) int { return int(n.next() >> 12 % uint64(bound)) }

// standing is what a vector has of one datacenter.
type standing struct {
	has bool
	t   uint64
}

func in(t uint64) standing  { return standing{true, t} }
func out(t uint64) standing { return standing{false, t} }

// vector has these standings of datacenter 0 and on; of the others that they are no members.
func vector(epoch int, l ...standing) vec.Vec {
	v := vec.Vec{Epoch: epoch}
	for dc, s := range l {
		v.Has[dc], v.T[dc] = s.has, s.t
	}
	return v
}

// who are the members of these numbers.
func who(dcs ...int) members {
	var has members
	for _, dc := range dcs {
		has[dc] = true
	}
	return has
}

// allMembers are all the ways to be members.
func allMembers() []members {
	var l []members
	for bits := range 16 {
		l = append(l, members{bits&1 != 0, bits&2 != 0, bits&4 != 0, bits&8 != 0})
	}
	return l
}

// fewOf are all vectors in which so many datacenters have one each of these standings; the others are no members.
func fewOf(epoch, count int, l ...standing) []vec.Vec {
	all := []vec.Vec{vector(epoch)}
	for dc := range count {
		var more []vec.Vec
		for _, v := range all {
			for _, s := range l {
				more = append(more, with(v, dc, s))
			}
		}
		all = more
	}
	return all
}

func vectorsOf(epoch int, l ...standing) []vec.Vec { return fewOf(epoch, 4, l...) }

// plainOnes are all plain vectors of an epoch whose members have these times.
func plainOnes(epoch int, times ...uint64) []vec.Vec {
	standings := []standing{out(0)}
	for _, t := range times {
		standings = append(standings, in(t))
	}
	return vectorsOf(epoch, standings...)
}

// unplainOnes are those, and all in which others than members have these times too.
func unplainOnes(epoch int, times ...uint64) []vec.Vec {
	standings := []standing{out(0)}
	for _, t := range times {
		standings = append(standings, in(t))
		if t > 0 {
			standings = append(standings, out(t))
		}
	}
	return vectorsOf(epoch, standings...)
}

// epochs are some that are nought, below it, and at both ends.
func epochs() []int { return []int{lowest, lowest + 1, -7, -1, 0, 1, 2, 9, highest - 1, highest} }

// moments are times at both ends and in the midst.
func moments() []uint64 {
	return []uint64{0, 1, 2, 5, 1<<16 - 1, 1 << 32, 1<<63 - 1, 1 << 63, latest - 1, latest}
}

// noDCs are numbers of no datacenter.
func noDCs() []int {
	return []int{-1, -2, -4, lowest, lowest + 3, 4, 5, 8, 1 << 32, 1<<32 + 1, highest}
}

func told(v vec.Vec) string {
	var b strings.Builder
	fmt.Fprintf(&b, "(epoch %d:", v.Epoch)
	for dc, has := range v.Has {
		if has {
			fmt.Fprintf(&b, " %d", v.T[dc])
		} else {
			fmt.Fprintf(&b, " none %d", v.T[dc])
		}
	}
	return b.String() + ")"
}

func toldMembers(has members) string {
	var b strings.Builder
	for dc, is := range has {
		if is {
			fmt.Fprint(&b, dc)
		}
	}
	return "members {" + b.String() + "}"
}

// wantVec compares first, since what is called is told at some length.
func wantVec(t *testing.T, promise string, got, want vec.Vec, call func() string) {
	t.Helper()
	if got != want {
		t.Errorf("%s: %s is %s, not %s", promise, call(), told(got), told(want))
	}
}

func wantNew(t *testing.T, epoch int, has members, want vec.Vec) {
	t.Helper()
	wantVec(t, "P11.1", vec.New(epoch, has), want, func() string {
		return fmt.Sprintf("New(%d, %s)", epoch, toldMembers(has))
	})
}

func wantPlain(t *testing.T, v, want vec.Vec) {
	t.Helper()
	wantVec(t, "P11.1", vec.Plain(v), want, func() string { return "Plain of " + told(v) })
}

func wantRaise(t *testing.T, v vec.Vec, dc int, to uint64, want vec.Vec) {
	t.Helper()
	wantVec(t, "P11.1", vec.Raise(v, dc, to), want, func() string {
		return fmt.Sprintf("Raise(%s, %d, %d)", told(v), dc, to)
	})
}

func wantLeast(t *testing.T, v vec.Vec, want uint64) {
	t.Helper()
	if got, there := vec.Least(v); got != want || !there {
		t.Errorf("P11.1: Least of %s is %d, %t, not %d, true", told(v), got, there, want)
	}
}

func wantNoLeast(t *testing.T, v vec.Vec) {
	t.Helper()
	if got, there := vec.Least(v); got != 0 || there {
		t.Errorf("P11.1: Least of %s is %d, %t, not 0, false", told(v), got, there)
	}
}

func wantResize(t *testing.T, v vec.Vec, epoch int, has members, want vec.Vec) {
	t.Helper()
	got, e := vec.Resize(v, epoch, has)
	if got != want || e != api.OK {
		t.Errorf("P11.1: Resize(%s, %d, %s) is %s with error %d, not %s", told(v), epoch, toldMembers(has), told(got), e, told(want))
	}
}

func wantTooOld(t *testing.T, v vec.Vec, epoch int, has members) {
	t.Helper()
	got, e := vec.Resize(v, epoch, has)
	if e != api.ErrOld {
		t.Errorf("P11.1: Resize(%s, %d, %s) has error %d, not %d", told(v), epoch, toldMembers(has), e, api.ErrOld)
	}
	if got != (vec.Vec{}) {
		t.Errorf("R5: Resize(%s, %d, %s) is %s beside error %d", told(v), epoch, toldMembers(has), told(got), e)
	}
}

func wantMerge(t *testing.T, promise string, a, b, want vec.Vec) {
	t.Helper()
	wantVec(t, promise, vec.Merge(a, b), want, func() string {
		return fmt.Sprintf("Merge(%s, %s)", told(a), told(b))
	})
}

func wantMergeBothWays(t *testing.T, a, b, want vec.Vec) {
	t.Helper()
	wantMerge(t, "P11.1", a, b, want)
	wantMerge(t, "P11.1", b, a, want)
}

func wantLeq(t *testing.T, a, b vec.Vec, want bool) {
	t.Helper()
	if got := vec.Leq(a, b); got != want {
		t.Errorf("P11.1: Leq(%s, %s) is %t, not %t", told(a), told(b), got, want)
	}
}

// with is the vector with another standing of one datacenter.
func with(v vec.Vec, dc int, s standing) vec.Vec {
	v.Has[dc], v.T[dc] = s.has, s.t
	return v
}

// isPlain is told without Plain.
func isPlain(v vec.Vec) bool {
	for dc, t := range v.T {
		if !v.Has[dc] && t != 0 {
			return false
		}
	}
	return true
}

// anyTime is mostly small, so that times are often alike.
func anyTime(r *numbers) uint64 {
	switch r.below(6) {
	case 0:
		l := moments()
		return l[r.below(len(l))]
	case 1:
		return r.next()
	}
	return uint64(r.below(6))
}

// anyVector now and then isn't plain.
func anyVector(r *numbers) vec.Vec {
	v := vec.Vec{Epoch: r.below(3)}
	if r.below(10) == 0 {
		l := epochs()
		v.Epoch = l[r.below(len(l))]
	}
	unplain := r.below(3) == 0
	for dc := range v.Has {
		v.Has[dc] = r.below(3) > 0
		if v.Has[dc] || unplain {
			v.T[dc] = anyTime(r)
		}
	}
	return v
}

func anyMembers(r *numbers) members { return allMembers()[r.below(16)] }
