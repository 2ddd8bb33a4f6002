package store_test

import (
	"testing"

	"confluence/api"
	"confluence/store"
)

// At nought, at each version's time, one below it and one above it, and at the greatest time there is.
func TestGetAtTimes(t *testing.T) {
	l := times("k", 3, 5, 6, 70, 1<<63-1, 1<<63)
	s := with(t, 0, times("j", 1, 4), l, times("l", 2))
	for snap := range uint64(3) {
		wantGet(t, "P10.1", s, "k", snap, seen{})
	}
	for _, c := range []struct {
		snap uint64
		want int
	}{
		{3, 0}, {4, 0}, {5, 1}, {6, 2}, {7, 2}, {69, 2}, {70, 3}, {71, 3}, {1 << 32, 3},
		{1<<63 - 2, 3}, {1<<63 - 1, 4}, {1 << 63, 5}, {1<<63 + 1, 5}, {latest - 1, 5}, {latest, 5},
	} {
		wantGet(t, "P10.1", s, "k", c.snap, seen{l[c.want], true, api.OK})
	}
	ends := times("k", 0, latest)
	s = with(t, 0, ends)
	wantGet(t, "P10.1", s, "k", 0, seen{ends[0], true, api.OK})
	wantGet(t, "P10.1", s, "k", latest-1, seen{ends[0], true, api.OK})
	wantGet(t, "P10.1", s, "k", latest, seen{ends[1], true, api.OK})
}

// Below the floor, at it and one above it.
func TestGetAboutTheFloor(t *testing.T) {
	for _, floor := range []uint64{0, 1, 2, 3, 4, 6, 7, 8, 11, 12, 13, 1 << 63, latest - 1, latest} {
		l := times("k", 3, 7, 12)
		s := with(t, 0, l)
		s.Trim(floor)
		for _, snap := range moments(l, floor) {
			want := seen{e: api.ErrOld}
			if snap >= floor {
				want = seen{}
				for _, v := range l {
					if v.TS <= snap {
						want = seen{v, true, api.OK}
					}
				}
			}
			wantGet(t, "P10.1", s, "k", snap, want)
			// Of a key that has no versions the floor is the same.
			want.v, want.there = api.Ver{}, false
			wantGet(t, "P10.1", s, "nobody's", snap, want)
			wantGet(t, "P10.1", s, "", snap, want)
		}
	}
}

// A key that isn't there is much like one that is.
func TestGetOfKeysThatAreNotThere(t *testing.T) {
	s := with(t, 0, strange())
	for _, key := range strangeKeys() {
		for _, other := range []string{"", key + "x", key + key + "\x00", long(16), long(17), "A", key[:len(key)-1] + "\x02"} {
			for _, snap := range []uint64{0, 12, latest} {
				wantGet(t, "P10.1", s, other, snap, seen{})
			}
		}
	}
	wantHolds(t, "P10.1", "behind Get of keys that aren't there", s, 0, strange())
}

// Of several with one time the one whose mark is greatest.
func TestGetOfOneTime(t *testing.T) {
	for _, l := range [][]api.Ver{
		{marked("k", 4, 0, 1), marked("k", 4, 0, 2), marked("k", 4, 0, 10)},
		{marked("k", 4, 0, 9), marked("k", 4, 1, 5), marked("k", 4, 3, 1)},
		{marked("k", 4, 1, 1<<30), marked("k", 4, 2, 3), gone(marked("k", 4, 3, 0))},
	} {
		for _, turned := range [][]api.Ver{l, {l[2], l[1], l[0]}, {l[1], l[2], l[0]}} {
			s := with(t, 0, turned)
			wantGet(t, "P10.1", s, "k", 3, seen{})
			wantGet(t, "P10.1", s, "k", 4, seen{l[2], true, api.OK})
			wantGet(t, "P10.1", s, "k", 5, seen{l[2], true, api.OK})
		}
	}
}

// A version that says that the key is gone is seen as others are, also at the floor.
func TestGetOfWhatIsGone(t *testing.T) {
	l := []api.Ver{ver("k", 2), gone(ver("k", 4)), valued(ver("k", 6), ""), gone(ver("k", 8)), ver("k", 10)}
	s := with(t, 0, l)
	for i, v := range l {
		wantGet(t, "P10.1", s, "k", v.TS, seen{v, true, api.OK})
		wantGet(t, "P10.1", s, "k", v.TS+1, seen{v, true, api.OK})
		s.Trim(v.TS + 1)
		wantGet(t, "P10.1", s, "k", v.TS+1, seen{v, true, api.OK})
		wantHolds(t, "P10.1", "trimmed", s, v.TS+1, l[i:])
	}
}

// Get of a key whose one version says that it is gone; what is gone is a version like others.
func TestGoneAloneIsAVersion(t *testing.T) {
	v := gone(ver("k", 5))
	s := store.New()
	wantPut(t, "P10.1", s, v, api.OK)
	s.Trim(100)
	wantGet(t, "P10.1", s, "k", 100, seen{v, true, api.OK})
	wantHolds(t, "P10.1", "with one that is gone", s, 100, []api.Ver{v})
	wantCount(t, "P10.1", "Drop", s.Drop("k", ""), 1)
	wantGet(t, "P10.1", s, "k", 100, seen{})
}

// Get changes nothing, also of what it refuses.
func TestGetChangesNothing(t *testing.T) {
	s := with(t, 0, strange())
	s.Trim(12)
	want := wholeOf(s, strange())
	for range 3 {
		for _, v := range strange() {
			get(s, v.Key, v.TS)
			get(s, v.Key+"x", latest)
			get(s, v.Key, 11)
		}
		wantWhole(t, "R6", "behind Get", s, strange(), want)
	}
}
