package vec_test

import (
	"testing"

	"confluence/vec"
)

// wantOneIsLeq wants a Leq b, and b not Leq a.
func wantOneIsLeq(t *testing.T, a, b vec.Vec) {
	t.Helper()
	wantLeq(t, a, b, true)
	wantLeq(t, b, a, false)
}

// wantNeitherIsLeq wants that neither is Leq to the other.
func wantNeitherIsLeq(t *testing.T, a, b vec.Vec) {
	t.Helper()
	wantLeq(t, a, b, false)
	wantLeq(t, b, a, false)
}

func TestLeqOfEpochs(t *testing.T) {
	for _, one := range epochs() {
		for _, other := range epochs() {
			same := one == other
			wantLeq(t, vector(one, in(5), in(3)), vector(other, in(5), in(3)), same)
			wantLeq(t, vector(one), vector(other), same)
			wantLeq(t, vector(one), vector(other, in(5), in(3)), same)
			wantLeq(t, vector(one, in(0)), vector(other, in(latest), in(3)), same)
			wantLeq(t, vector(one, in(5)), vector(other, in(4)), false)
		}
	}
}

func TestLeqOfMembers(t *testing.T) {
	for _, one := range allMembers() {
		for _, other := range allMembers() {
			all := true
			for dc := range 4 {
				all = all && (!one[dc] || other[dc])
			}
			wantLeq(t, vec.New(1, one), vec.New(1, other), all)
			wantLeq(t, vec.New(1, one), vec.Vec{Epoch: 1, Has: other, T: [4]uint64{9, 9, 9, 9}}, all)
			wantLeq(t, vec.Vec{Epoch: 1, Has: one, T: [4]uint64{9, 9, 9, 9}}, vec.Vec{Epoch: 1, Has: other, T: [4]uint64{9, 9, 9, 9}}, all)
		}
	}
}

// A member of a that is none of b, at each place; a greater time doesn't stand in for it.
func TestLeqOfMembersThatAreNotTheOthers(t *testing.T) {
	for dc := range 4 {
		for _, time := range moments() {
			a := with(vector(1, in(5), in(5), in(5), in(5)), dc, in(time))
			wantLeq(t, a, with(a, dc, out(0)), false)
			wantLeq(t, a, with(a, dc, out(time)), false)
			wantLeq(t, a, with(a, dc, out(latest)), false)
			wantLeq(t, with(a, dc, out(0)), a, true)
		}
	}
}

// Times that are alike, and above and below by one, at each place.
func TestLeqOfTimes(t *testing.T) {
	for _, v := range []vec.Vec{vector(1, in(1), in(7), in(1<<63), in(latest-1)), vector(1, in(latest-1), in(1<<63-1), in(1<<32), in(1))} {
		wantLeq(t, v, v, true)
		for dc, time := range v.T {
			wantOneIsLeq(t, v, with(v, dc, in(time+1)))
			wantOneIsLeq(t, with(v, dc, in(time-1)), v)
			for other, otherTime := range v.T {
				if other != dc {
					wantNeitherIsLeq(t, with(v, dc, in(time+1)), with(v, other, in(otherTime+1)))
					wantNeitherIsLeq(t, v, with(with(v, dc, in(time+1)), other, in(otherTime-1)))
				}
			}
		}
	}
	wantOneIsLeq(t, vector(1, in(0), in(0), in(0), in(0)), vector(1, in(latest), in(latest), in(latest), in(latest)))
	wantOneIsLeq(t, vector(1, in(0)), vector(1, in(latest)))
}

// Times of those that are no members don't count: of a they aren't looked at, of b there is no such member.
func TestLeqWithoutOthers(t *testing.T) {
	wantLeq(t, vector(1, in(5), out(9)), vector(1, in(5)), true)
	wantLeq(t, vector(1, in(5), out(9)), vector(1, in(5), in(3)), true)
	wantLeq(t, vector(1, in(5)), vector(1, in(5), out(9)), true)
	wantLeq(t, vector(1, in(5), out(9)), vector(1, in(5), out(3)), true)
	wantLeq(t, vector(1, in(5), out(9)), vector(1, in(4), out(9)), false)
	wantLeq(t, vector(1, in(5), in(0)), vector(1, in(5), out(9)), false)
	wantLeq(t, vector(1, out(latest), out(latest), out(latest), out(latest)), vector(1), true)
	for dc := range 4 {
		for _, one := range moments() {
			for _, other := range moments() {
				rest := vector(1, in(5), in(5), in(5), in(5))
				wantLeq(t, with(rest, dc, out(one)), with(rest, dc, out(other)), true)
				wantLeq(t, with(rest, dc, out(one)), with(rest, dc, in(other)), true)
				wantLeq(t, with(rest, dc, in(one)), with(rest, dc, out(other)), false)
				wantLeq(t, with(rest, dc, in(one)), with(rest, dc, in(other)), one <= other)
			}
		}
	}
}

// A vector and what is made plain of it are each Leq to the other.
func TestLeqOfPlainAndNot(t *testing.T) {
	for _, v := range unplainOnes(4, 0, 3, latest) {
		wantLeq(t, v, v, true)
		wantLeq(t, v, vec.Plain(v), true)
		wantLeq(t, vec.Plain(v), v, true)
	}
}
