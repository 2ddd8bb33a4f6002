package vec_test

import (
	"testing"

	"confluence/vec"
)

func TestMergeOfOneEpochAndTheSameMembers(t *testing.T) {
	for _, epoch := range epochs() {
		wantMergeBothWays(t, vector(epoch, in(5), in(3)), vector(epoch, in(4), in(9)), vector(epoch, in(5), in(9)))
		wantMergeBothWays(t, vector(epoch, in(5), in(3)), vector(epoch, in(5), in(3)), vector(epoch, in(5), in(3)))
		wantMergeBothWays(t, vector(epoch, in(0), in(0), in(0), in(0)), vector(epoch, in(1), in(2), in(latest), in(0)), vector(epoch, in(1), in(2), in(latest), in(0)))
		wantMergeBothWays(t, vector(epoch, in(1<<63), in(latest-1)), vector(epoch, in(1<<63-1), in(latest)), vector(epoch, in(1<<63), in(latest)))
	}
	for dc := range 4 {
		for _, time := range moments() {
			a := with(vector(2, in(7), in(7), in(7), in(7)), dc, in(time))
			b := vector(2, in(7), in(7), in(7), in(7))
			wantMergeBothWays(t, a, b, with(b, dc, in(max(time, 7))))
		}
	}
}

func TestMergeOfOneEpochAndOtherMembers(t *testing.T) {
	for _, epoch := range epochs() {
		wantMergeBothWays(t, vector(epoch, in(5), in(3)), vector(epoch, out(0), in(4), in(6)), vector(epoch, in(5), in(4), in(6)))
		wantMergeBothWays(t, vector(epoch, in(5)), vector(epoch, out(0), out(0), out(0), in(6)), vector(epoch, in(5), out(0), out(0), in(6)))
		wantMergeBothWays(t, vector(epoch, in(5), in(0)), vector(epoch, in(4)), vector(epoch, in(5), in(0)))
		wantMergeBothWays(t, vector(epoch, in(0), out(0), in(0)), vector(epoch, out(0), in(latest), out(0), in(0)), vector(epoch, in(0), in(latest), in(0), in(0)))
	}
}

func TestMergeWithNoMembers(t *testing.T) {
	for _, epoch := range epochs() {
		none := vector(epoch)
		wantMergeBothWays(t, none, none, none)
		for _, v := range plainOnes(epoch, 0, 5) {
			wantMergeBothWays(t, v, none, v)
			wantMergeBothWays(t, v, vector(epoch, out(9), out(9), out(9), out(9)), v)
		}
	}
}

// What those that are no members have counts as 0: also where they are members of the other one.
func TestMergeOfOthersThanPlainOnes(t *testing.T) {
	wantMergeBothWays(t, vector(1, in(5), out(9)), vector(1, in(4), in(3)), vector(1, in(5), in(3)))
	wantMergeBothWays(t, vector(1, in(5), out(9)), vector(1, in(4), out(latest)), vector(1, in(5)))
	wantMergeBothWays(t, vector(1, out(5), in(0)), vector(1, in(0), out(5)), vector(1, in(0), in(0)))
	wantMergeBothWays(t, vector(1, out(1), out(2), out(3), out(4)), vector(1, out(4), out(3), out(2), out(1)), vector(1))
	wantMergeBothWays(t, vector(1, out(1), out(2), out(3), out(4)), vector(2, out(4), out(3), out(2), out(1)), vector(2))
	wantMergeBothWays(t, vector(1, out(9), in(2)), vector(2, in(4), out(7)), vector(2, in(4)))
	wantMergeBothWays(t, vector(1, in(9), in(2), out(8)), vector(2, out(latest), in(1), in(3)), vector(2, out(0), in(2), in(3)))
	wantMergeBothWays(t, vector(1, out(9), out(9)), vector(2, in(4), in(3)), vector(2, in(4), in(3)))
}

// Of unlike epochs the later one says who counts; the earlier one's times count where they are members of both.
func TestMergeOfUnlikeEpochs(t *testing.T) {
	l := epochs()
	for i, earlier := range l {
		for _, later := range l[i+1:] {
			wantMergeBothWays(t, vector(earlier, in(5), in(3)), vector(later, in(4), in(9)), vector(later, in(5), in(9)))
			// Member 2 comes, 0 isn't a member any more.
			wantMergeBothWays(t, vector(earlier, in(5), in(3)), vector(later, out(0), in(2), in(6)), vector(later, out(0), in(3), in(6)))
			wantMergeBothWays(t, vector(earlier, in(latest), in(3), out(0), in(1)), vector(later, out(0), out(0), in(0)), vector(later, out(0), out(0), in(0)))
			wantMergeBothWays(t, vector(earlier), vector(later, in(5), in(0)), vector(later, in(5), in(0)))
			wantMergeBothWays(t, vector(earlier, in(5), in(latest)), vector(later), vector(later))
			wantMergeBothWays(t, vector(earlier), vector(later), vector(later))
			wantMergeBothWays(t, vector(earlier, in(1), in(2), in(3), in(4)), vector(later, in(4), in(3), in(2), in(1)), vector(later, in(4), in(3), in(3), in(4)))
		}
	}
}

// All members of the earlier one with all of the later one, with times of each kind.
func TestMergeOfUnlikeEpochsAndAllMembers(t *testing.T) {
	for _, earlier := range allMembers() {
		for _, later := range allMembers() {
			for _, times := range [][2][4]uint64{{{5, 6, 7, 8}, {8, 7, 6, 5}}, {{0, 1, latest, 9}, {1, 0, 9, latest}}, {{9, 9, 9, 9}, {0, 0, 0, 0}}, {{0, 0, 0, 0}, {9, 9, 9, 9}}} {
				a := vec.Vec{Epoch: -1, Has: earlier, T: times[0]}
				b := vec.Vec{Epoch: 3, Has: later, T: times[1]}
				want := vec.Vec{Epoch: 3, Has: later}
				for dc := range 4 {
					switch {
					case earlier[dc] && later[dc]:
						want.T[dc] = max(times[0][dc], times[1][dc])
					case later[dc]:
						want.T[dc] = times[1][dc]
					}
				}
				wantMergeBothWays(t, a, b, want)
			}
		}
	}
}

// All members of the one with all of the other one, of one epoch.
func TestMergeOfOneEpochAndAllMembers(t *testing.T) {
	for _, one := range allMembers() {
		for _, other := range allMembers() {
			a := vec.Vec{Epoch: 3, Has: one, T: [4]uint64{5, 6, latest, 0}}
			b := vec.Vec{Epoch: 3, Has: other, T: [4]uint64{6, 5, 0, latest}}
			want := vec.Vec{Epoch: 3}
			for dc := range 4 {
				want.Has[dc] = one[dc] || other[dc]
				switch {
				case one[dc] && other[dc]:
					want.T[dc] = max(a.T[dc], b.T[dc])
				case one[dc]:
					want.T[dc] = a.T[dc]
				case other[dc]:
					want.T[dc] = b.T[dc]
				}
			}
			wantMergeBothWays(t, a, b, want)
		}
	}
}
