package store_test

import (
	"fmt"
	"slices"
	"testing"

	"confluence/api"
	"confluence/store"
)

func TestExamples(t *testing.T) {
	s := store.New()
	a, b := api.Ver{Key: "a", Val: "x", TS: 3}, api.Ver{Key: "a", Val: "y", TS: 7}
	wantPut(t, "P10.1", s, a, api.OK)
	wantPut(t, "P10.1", s, b, api.OK)
	wantCount(t, "P10.1", "Trim(7)", s.Trim(7), 1)
	wantGet(t, "P10.1", s, "a", 6, seen{e: api.ErrOld})
	wantPut(t, "P10.1", s, a, api.ErrOld)
	wantPut(t, "P10.1", s, b, api.ErrThere)
	wantGet(t, "P10.1", s, "a", 7, seen{b, true, api.OK})
	wantHolds(t, "P10.1", "behind the examples", s, 7, []api.Ver{b})
}

func TestNew(t *testing.T) {
	s := store.New()
	wantHolds(t, "P10.1", "of a new store", s, 0, nil)
	for _, key := range []string{"", "k", long(16), long(17)} {
		for _, snap := range moments(nil) {
			wantGet(t, "P10.1", s, key, snap, seen{})
		}
	}
	wantCount(t, "P10.1", "Drop of nothing", s.Drop("", ""), 0)
	wantCount(t, "P10.1", "Trim of nothing", s.Trim(0), 0)
	wantHolds(t, "P10.1", "of a new store that was asked", s, 0, nil)
}

// Whatever comes first, the chain is in the order of marks: of TS, then DC, then Tx, each as a number.
func TestPutInTheOrderOfMarks(t *testing.T) {
	for _, l := range [][]api.Ver{
		times("k", 3, 5, 6, 70),
		times("k", 9, 10, 100),
		times("k", 0, 1, 1<<63-1, 1<<63, latest),
		{marked("k", 4, 3, 9), marked("k", 5, 2, 5), marked("k", 6, 1, 7), marked("k", 7, 0, 1)},
		{marked("k", 4, 0, 9), marked("k", 4, 1, 5), marked("k", 4, 2, 1), marked("k", 4, 3, 0)},
		{marked("k", 4, 0, 0), marked("k", 4, 0, 9), marked("k", 4, 0, 10), marked("k", 4, 0, 1<<30)},
		{gone(marked("k", 4, 0, 1)), valued(marked("k", 4, 0, 2), ""), gone(marked("k", 4, 1, 0)), marked("k", 5, 0, 0)},
	} {
		for first := range l {
			for step := 1; step < len(l); step++ {
				s, count := store.New(), 0
				for i := first; count < len(l); i = (i + step) % len(l) {
					for slices.Contains(allIn(s, "", ""), l[i]) {
						i = (i + 1) % len(l)
					}
					wantPut(t, "P10.1", s, l[i], api.OK)
					count++
					wantCount(t, "P10.1", "Len", s.Len(), count)
				}
				wantHolds(t, "P10.1", "with all put", s, 0, l)
			}
		}
	}
}

// A mark of one key has nothing to do with the same mark of another one.
func TestPutOfOneMarkForManyKeys(t *testing.T) {
	s := store.New()
	var want []api.Ver
	for _, key := range strangeKeys() {
		v := marked(key, 5, 1, 1)
		wantPut(t, "P10.1", s, v, api.OK)
		want = append(want, v)
	}
	wantHolds(t, "P10.1", "with one mark for all keys", s, 0, want)
	for _, v := range want {
		wantPut(t, "P10.1", s, v, api.ErrThere)
		wantPut(t, "P10.1", s, valued(v, "other"), api.ErrForm)
		wantGet(t, "P10.1", s, v.Key, 5, seen{v, true, api.OK})
	}
}

func TestPutOfWhatIsThere(t *testing.T) {
	for _, floor := range []uint64{0, 9, 10, 12, 14, 100} {
		s := store.New()
		s.Load(strange())
		s.Trim(floor)
		held := allIn(s, "", "")
		want := wholeOf(s, held)
		for _, v := range held {
			wantPut(t, "P10.1", s, v, api.ErrThere)
		}
		wantWhole(t, "R6", "behind Put of all that is there", s, held, want)
	}
}

func TestPutOfAMarkThatIsThere(t *testing.T) {
	for _, floor := range []uint64{0, 9, 10, 12, 14, 100} {
		s := store.New()
		s.Load(strange())
		s.Trim(floor)
		held := allIn(s, "", "")
		want := wholeOf(s, held)
		for _, v := range held {
			for _, alike := range likenesses(v) {
				wantPut(t, "P10.1", s, alike, api.ErrForm)
			}
		}
		wantWhole(t, "R6", "behind Put of what is like that which is there", s, held, want)
	}
	empty, deleted := valued(ver("k", 5), ""), gone(ver("k", 5))
	wantPut(t, "P10.1", with(t, 0, []api.Ver{empty}), deleted, api.ErrForm)
	wantPut(t, "P10.1", with(t, 0, []api.Ver{deleted}), empty, api.ErrForm)
	wantPut(t, "P10.1", with(t, 0, []api.Ver{deleted}), deleted, api.ErrThere)
}

// With versions of the times 3, 7, 12 and the floor 8, that of 7 is seen there.
func TestPutAboutTheOneSeenAtTheFloor(t *testing.T) {
	there := []api.Ver{marked("k", 7, 2, 5), marked("k", 12, 2, 5)}
	for _, c := range []struct {
		v    api.Ver
		want api.Errno
		left []api.Ver
	}{
		{marked("k", 0, 0, 0), api.ErrOld, there},
		{marked("k", 3, 2, 5), api.ErrOld, there},
		{marked("k", 3, 3, 1<<30), api.ErrOld, there},
		{marked("k", 6, 2, 5), api.ErrOld, there},
		{marked("k", 7, 1, 5), api.ErrOld, there},
		{marked("k", 7, 1, 9), api.ErrOld, there},
		{marked("k", 7, 2, 4), api.ErrOld, there},
		{gone(marked("k", 7, 2, 4)), api.ErrOld, there},
		{there[0], api.ErrThere, there},
		{valued(there[0], "other"), api.ErrForm, there},
		{gone(there[0]), api.ErrForm, there},
		{there[1], api.ErrThere, there},
		{valued(there[1], "other"), api.ErrForm, there},
		// What is above it and not above the floor is seen there now, so that the other one goes.
		{marked("k", 7, 2, 6), api.OK, []api.Ver{marked("k", 7, 2, 6), there[1]}},
		{marked("k", 7, 3, 0), api.OK, []api.Ver{marked("k", 7, 3, 0), there[1]}},
		{marked("k", 8, 0, 0), api.OK, []api.Ver{marked("k", 8, 0, 0), there[1]}},
		{gone(marked("k", 8, 3, 1<<30)), api.OK, []api.Ver{gone(marked("k", 8, 3, 1<<30)), there[1]}},
		{marked("k", 9, 0, 0), api.OK, []api.Ver{there[0], marked("k", 9, 0, 0), there[1]}},
		{marked("k", 12, 2, 4), api.OK, []api.Ver{there[0], marked("k", 12, 2, 4), there[1]}},
		{marked("k", 12, 2, 6), api.OK, []api.Ver{there[0], there[1], marked("k", 12, 2, 6)}},
		{marked("k", latest, 0, 0), api.OK, []api.Ver{there[0], there[1], marked("k", latest, 0, 0)}},
	} {
		s := with(t, 0, []api.Ver{marked("k", 3, 2, 5)}, there)
		wantCount(t, "P10.1", "Trim(8)", s.Trim(8), 1)
		wantPut(t, "P10.1", s, c.v, c.want)
		wantHolds(t, "P10.1", "behind Put of "+quoted(c.v), s, 8, c.left)
	}
}

// What isn't above the floor is taken, where nothing of the key is seen there.
func TestPutWhereNothingIsSeenAtTheFloor(t *testing.T) {
	above := times("k", 9, 12)
	for _, held := range [][]api.Ver{nil, above, times("other", 3, 8), append(times("j", 8), above...)} {
		for _, ts := range []uint64{0, 1, 7, 8} {
			v := marked("k", ts, 1, 1)
			s := with(t, 8, held)
			wantPut(t, "P10.1", s, v, api.OK)
			wantGet(t, "P10.1", s, "k", 8, seen{v, true, api.OK})
			// Now one is seen there: what is below it is old, and what is above it makes it go.
			wantPut(t, "P10.1", s, marked("k", ts, 1, 0), api.ErrOld)
			wantPut(t, "P10.1", s, v, api.ErrThere)
			wantPut(t, "P10.1", s, valued(v, "other"), api.ErrForm)
			before := s.Len()
			next := marked("k", ts, 1, 2)
			wantPut(t, "P10.1", s, next, api.OK)
			wantCount(t, "P10.1", "Len", s.Len(), before)
			wantGet(t, "P10.1", s, "k", 8, seen{next, true, api.OK})
			wantPut(t, "P10.1", s, v, api.ErrOld)
		}
	}
}

// Each comes ahead of what is seen at the floor, and goes with the next one.
func TestPutMakesTheOneSeenAtTheFloorGo(t *testing.T) {
	s := with(t, 50, times("j", 3), times("l", 3, 60))
	for ts := range uint64(51) {
		v := ver("k", ts)
		wantPut(t, "P10.1", s, v, api.OK)
		wantHolds(t, "P10.1", "behind Put of "+quoted(v), s, 50, slices.Concat(times("j", 3), []api.Ver{v}, times("l", 3, 60)))
	}
	for ts := uint64(51); ts < 60; ts++ {
		wantPut(t, "P10.1", s, ver("k", ts), api.OK)
	}
	wantCount(t, "P10.1", "Len", s.Len(), 13)
}

// The floor is one for all keys; what is seen at it is of each key another one.
func TestPutIsHeldAgainstItsKey(t *testing.T) {
	s := with(t, 0, times("a", 3), times("b", 7), times("c", 12))
	s.Trim(10)
	for _, c := range []struct {
		key  string
		ts   uint64
		want api.Errno
	}{
		{"a", 2, api.ErrOld}, {"a", 5, api.OK}, {"b", 5, api.ErrOld}, {"b", 8, api.OK}, {"c", 5, api.OK}, {"c", 4, api.ErrOld}, {"d", 0, api.OK},
	} {
		wantPut(t, "P10.1", s, ver(c.key, c.ts), c.want)
	}
	wantHolds(t, "P10.1", "with a floor for all", s, 10, []api.Ver{ver("a", 5), ver("b", 8), ver("c", 5), ver("c", 12), ver("d", 0)})
}

func TestRefusedPutChangesNothing(t *testing.T) {
	for _, floor := range []uint64{0, 5, 6, 8, 12, 20} {
		s := with(t, 0, times("k", 3, 5, 6, 12), times("j", 4), []api.Ver{gone(ver("l", 5))})
		s.Trim(floor)
		of := append(times("k", 3, 5, 6, 12), times("j", 4)...)
		want := wholeOf(s, of)
		for _, v := range of {
			for _, other := range append(likenesses(v), v, valued(v, long(65)), marked("", v.TS, 0, 0), marked(v.Key, v.TS, -1, 0)) {
				if e := s.Put(other); e == api.OK {
					t.Errorf("P10.1: at the floor %d, Put of %s isn't refused", floor, quoted(other))
				}
				wantWhole(t, "R6", fmt.Sprintf("at the floor %d, behind Put of %s", floor, quoted(other)), s, of, want)
			}
			if t.Failed() {
				return
			}
		}
	}
}
