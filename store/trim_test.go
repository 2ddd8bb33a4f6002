package store_test

import (
	"fmt"
	"slices"
	"testing"

	"confluence/api"
	"confluence/store"
)

func wantTrimmed(t *testing.T, s *store.Store, floor uint64, went int, want uint64, left []api.Ver) {
	t.Helper()
	call := fmt.Sprintf("Trim(%d) at the floor %d", floor, s.Floor())
	wantCount(t, "P10.1", call, s.Trim(floor), went)
	wantHolds(t, "P10.1", "behind "+call, s, want, left)
}

// A floor that rises, that stands, and that would fall.
func TestTrimOfFloors(t *testing.T) {
	j, k := times("j", 5, 9), times("k", 3, 7, 12, 20)
	s := with(t, 0, j, k)
	for _, c := range []struct {
		floor uint64
		went  int
		want  uint64
		// From which place on the versions of the two keys are left.
		j, k int
	}{
		{0, 0, 0, 0, 0}, {2, 0, 2, 0, 0}, {3, 0, 3, 0, 0}, {6, 0, 6, 0, 0}, {6, 0, 6, 0, 0}, {1, 0, 6, 0, 0},
		{7, 1, 7, 0, 1}, {7, 0, 7, 0, 1}, {0, 0, 7, 0, 1}, {8, 0, 8, 0, 1}, {9, 1, 9, 1, 1}, {8, 0, 9, 1, 1},
		{19, 1, 19, 1, 2}, {20, 1, 20, 1, 3}, {19, 0, 20, 1, 3}, {21, 0, 21, 1, 3}, {latest, 0, latest, 1, 3}, {21, 0, latest, 1, 3}, {latest, 0, latest, 1, 3},
	} {
		wantTrimmed(t, s, c.floor, c.went, c.want, slices.Concat(j[c.j:], k[c.k:]))
	}
}

// At once, from nought to each floor.
func TestTrimAtOnce(t *testing.T) {
	j, k := times("j", 5, 9), times("k", 3, 7, 12, 20)
	for _, c := range []struct {
		floor uint64
		j, k  int
	}{
		{0, 0, 0}, {2, 0, 0}, {3, 0, 0}, {4, 0, 0}, {6, 0, 0}, {7, 0, 1}, {8, 0, 1}, {9, 1, 1}, {11, 1, 1}, {12, 1, 2}, {13, 1, 2}, {19, 1, 2}, {20, 1, 3}, {21, 1, 3}, {1 << 63, 1, 3}, {latest, 1, 3},
	} {
		s := with(t, 0, j, k)
		wantTrimmed(t, s, c.floor, c.j+c.k, c.floor, slices.Concat(j[c.j:], k[c.k:]))
		wantTrimmed(t, s, c.floor, 0, c.floor, slices.Concat(j[c.j:], k[c.k:]))
	}
}

func TestTrimOfNone(t *testing.T) {
	s := store.New()
	for _, c := range [][2]uint64{{0, 0}, {5, 5}, {5, 5}, {4, 5}, {0, 5}, {6, 6}, {1<<63 - 1, 1<<63 - 1}, {1 << 63, 1 << 63}, {6, 1 << 63}, {latest, latest}, {latest - 1, latest}, {0, latest}} {
		wantTrimmed(t, s, c[0], 0, c[1], nil)
	}
}

// Of those with one time the one with the greatest mark alone is seen; the others go.
func TestTrimOfOneTime(t *testing.T) {
	l := []api.Ver{marked("k", 4, 0, 1), marked("k", 4, 0, 10), marked("k", 4, 1, 0), gone(marked("k", 4, 3, 0))}
	s := with(t, 0, l)
	wantTrimmed(t, s, 3, 0, 3, l)
	wantTrimmed(t, s, 4, 3, 4, l[3:])
	wantTrimmed(t, s, 5, 0, 5, l[3:])
}

// The one that is seen at the floor stays, also where it says that the key is gone, and where it is the last.
func TestTrimLeavesTheOneThatIsSeen(t *testing.T) {
	var l []api.Ver
	for i, key := range strangeKeys() {
		l = append(l, ver(key, uint64(i)), gone(ver(key, uint64(2*i+1))))
	}
	s := with(t, 0, l)
	for floor := range uint64(60) {
		var left []api.Ver
		for i := range strangeKeys() {
			if uint64(2*i+1) > floor {
				left = append(left, l[2*i])
			}
			left = append(left, l[2*i+1])
		}
		wantTrimmed(t, s, floor, s.Len()-len(left), floor, left)
	}
	wantCount(t, "P10.1", "Len", s.Len(), len(strangeKeys()))
}

// From the floor on, what is seen stays; below it nothing is seen any more.
func TestTrimChangesNothingFromFloorOn(t *testing.T) {
	for _, floor := range moments(strange()) {
		s := with(t, 0, strange())
		for _, key := range keysOf(strange()) {
			before := map[uint64]seen{}
			for _, snap := range moments(strange(), floor) {
				before[snap] = get(s, key, snap)
			}
			trimmed := store.New()
			trimmed.Load(strange())
			trimmed.Trim(floor)
			for snap, want := range before {
				if snap < floor {
					want = seen{e: api.ErrOld}
				}
				wantGet(t, "P10.1", trimmed, key, snap, want)
			}
		}
	}
}

// A lower floor changes nothing, and what comes is held against the one that stands.
func TestTrimThatWouldFall(t *testing.T) {
	s := with(t, 0, strange())
	s.Trim(12)
	want := wholeOf(s, strange())
	for _, floor := range []uint64{0, 1, 10, 11, 12} {
		wantCount(t, "P10.1", fmt.Sprintf("Trim(%d) at the floor 12", floor), s.Trim(floor), 0)
		wantWhole(t, "P10.1", fmt.Sprintf("behind Trim(%d) at the floor 12,", floor), s, strange(), want)
	}
	s = with(t, 0, times("k", 7))
	s.Trim(8)
	s.Trim(2)
	wantPut(t, "P10.1", s, ver("k", 6), api.ErrOld)
	wantPut(t, "P10.1", s, ver("k", 8), api.OK)
	wantHolds(t, "P10.1", "behind Trim that would fall, and Put", s, 8, times("k", 8))
}
