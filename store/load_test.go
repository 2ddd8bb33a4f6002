package store_test

import (
	"fmt"
	"slices"
	"testing"

	"confluence/api"
	"confluence/store"
)

func wantLoad(t *testing.T, promise string, s *store.Store, l []api.Ver, want int) {
	t.Helper()
	wantCount(t, promise, "Load of "+told(l), s.Load(l), want)
}

func TestLoadOfNone(t *testing.T) {
	for _, s := range []*store.Store{store.New(), with(t, 4, times("k", 3, 7))} {
		want := wholeOf(s, times("k", 3, 7))
		for _, l := range [][]api.Ver{nil, {}, times("j", 1)[:0]} {
			wantLoad(t, "P10.1", s, l, 0)
			wantWhole(t, "P10.1", "behind Load of none", s, times("k", 3, 7), want)
		}
	}
}

func TestLoadOfSomeTakenAndSomeRefused(t *testing.T) {
	for _, c := range []struct {
		l     []api.Ver
		taken int
		left  []api.Ver
	}{
		{times("k", 9), 1, times("k", 7, 9, 12)},
		{times("k", 9, 9, 9), 1, times("k", 7, 9, 12)},
		{times("k", 3, 7, 12), 0, times("k", 7, 12)},
		{times("k", 3, 9, 7, 10, 12, 11), 3, times("k", 7, 9, 10, 11, 12)},
		{append(times("k", 20, 3), times("a", 3, 2, 5)...), 3, append(times("a", 5), times("k", 7, 12, 20)...)},
		{[]api.Ver{{}, valued(ver("k", 12), "other"), ver("k", 9), {Key: "k", TS: 9}, {Key: long(17)}, ver("k", 10)}, 2, times("k", 7, 9, 10, 12)},
		{[]api.Ver{{}, {Key: long(17)}, {Key: "k", Val: "v", Gone: true}, {Key: "k", Tx: -1}}, 0, times("k", 7, 12)},
		// In order: what comes first makes what comes behind it old, or takes its mark.
		{times("k", 8, 7), 1, times("k", 8, 12)},
		{times("k", 7, 8), 1, times("k", 8, 12)},
		{times("b", 1, 2, 3), 3, append(times("b", 3), times("k", 7, 12)...)},
		{times("b", 3, 2, 1), 1, append(times("b", 3), times("k", 7, 12)...)},
		{times("b", 2, 1, 3), 2, append(times("b", 3), times("k", 7, 12)...)},
		{[]api.Ver{valued(ver("b", 9), "first"), valued(ver("b", 9), "second")}, 1, append([]api.Ver{valued(ver("b", 9), "first")}, times("k", 7, 12)...)},
		{[]api.Ver{valued(ver("b", 9), "second"), valued(ver("b", 9), "first"), ver("b", 10)}, 2, append([]api.Ver{valued(ver("b", 9), "second"), ver("b", 10)}, times("k", 7, 12)...)},
	} {
		s := with(t, 0, times("k", 3, 7, 12))
		s.Trim(8)
		wantLoad(t, "P10.1", s, c.l, c.taken)
		wantHolds(t, "P10.1", "behind Load of "+told(c.l), s, 8, c.left)
	}
}

// Load is Put of each, in order.
func TestLoadIsPutOfEach(t *testing.T) {
	r := numbers(21)
	for range 300 {
		loaded, put := store.New(), store.New()
		for range 4 {
			floor := uint64(r.below(14))
			loaded.Trim(floor)
			put.Trim(floor)
			l := anyVersions(&r, r.below(12))
			taken := 0
			for _, v := range l {
				if put.Put(v) == api.OK {
					taken++
				}
			}
			wantLoad(t, "P10.1", loaded, l, taken)
			wantWhole(t, "P10.1", "behind Load of "+told(l), loaded, l, wholeOf(put, l))
		}
	}
}

func TestLoadOfMany(t *testing.T) {
	r, s := numbers(22), store.New()
	var l []api.Ver
	for i := range 4096 {
		l = append(l, marked(fmt.Sprint("key ", i%300), uint64(i/7), i%4, i))
	}
	wantLoad(t, "P10.1", s, r.shuffled(l), 4096)
	wantHolds(t, "P10.1", "behind Load of many", s, 0, byKeys(l))
	wantLoad(t, "P10.4", s, l, 0)
}

// With some that are taken, some that are refused, and a floor: what is loaded again changes nothing.
func TestLoadedTwiceIsLoadedOnce(t *testing.T) {
	r := numbers(23)
	for range 300 {
		s := store.New()
		s.Load(anyVersions(&r, r.below(20)))
		s.Trim(uint64(r.below(10)))
		l := anyVersions(&r, 30)
		s.Load(l)
		of := slices.Concat(l, allIn(s, "", ""))
		want := wholeOf(s, of)
		for range 2 {
			wantLoad(t, "P10.4", s, l, 0)
			wantWhole(t, "P10.4", "loaded twice with "+told(l), s, of, want)
		}
		once, twice := store.New(), store.New()
		once.Trim(s.Floor())
		twice.Trim(s.Floor())
		once.Load(l)
		twice.Load(append(slices.Clone(l), l...))
		wantWhole(t, "P10.4", "loaded with a list that stands twice in one, "+told(l), twice, l, wholeOf(once, l))
	}
}

// Loaded twice with what a store itself tells, it is as it was.
func TestLoadOfItself(t *testing.T) {
	for _, floor := range []uint64{0, 10, 11, 12, 13, 50} {
		s := with(t, 0, strange())
		s.Trim(floor)
		want := wholeOf(s, strange())
		wantLoad(t, "P10.4", s, allIn(s, "", ""), 0)
		wantWhole(t, "P10.4", "loaded with itself", s, strange(), want)
	}
}
