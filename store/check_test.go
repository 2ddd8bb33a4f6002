package store_test

import (
	"fmt"
	"strings"
	"testing"

	"confluence/api"
	"confluence/store"
)

// flaw is a version that isn't right, and what is wrong with it.
type flaw struct {
	v    api.Ver
	want api.Errno
}

func long(count int) string { return strings.Repeat("l", count) }

// rightOnes are versions at the limits.
func rightOnes() []api.Ver {
	var l []api.Ver
	for _, key := range []string{"k", "\x00", "\xff", "two", long(15), long(16), strings.Repeat("\xff", 16), strings.Repeat("\x00", 16)} {
		for _, val := range []string{"", "v", "\x00\xff", long(63), long(64), strings.Repeat("\xff", 64)} {
			l = append(l, api.Ver{Key: key, Val: val, TS: 5, DC: 1, Tx: 1})
		}
		l = append(l, api.Ver{Key: key, Gone: true, TS: 5, DC: 1, Tx: 1})
	}
	for _, ts := range []uint64{0, 1, 1<<63 - 1, 1 << 63, latest} {
		for dc := range 4 {
			for _, tx := range []int{0, 1, 1<<30 - 1, 1 << 30} {
				l = append(l, api.Ver{Key: "k", Val: "v", TS: ts, DC: dc, Tx: tx}, api.Ver{Key: "k", Gone: true, TS: ts, DC: dc, Tx: tx})
			}
		}
	}
	return l
}

// flaws break each rule by itself.
func flaws() []flaw {
	right := api.Ver{Key: "k", Val: "v", TS: 5, DC: 1, Tx: 1}
	var l []flaw
	with := func(want api.Errno, change func(v *api.Ver)) {
		v := right
		change(&v)
		l = append(l, flaw{v, want})
	}
	for _, count := range []int{17, 18, 64, 255, 1000} {
		with(api.ErrLong, func(v *api.Ver) { v.Key = long(count) })
	}
	for _, count := range []int{65, 66, 255, 256, 100000} {
		with(api.ErrLong, func(v *api.Ver) { v.Val = long(count) })
	}
	with(api.ErrArg, func(v *api.Ver) { v.Key = "" })
	with(api.ErrArg, func(v *api.Ver) { v.Key, v.Val = "", "" })
	for _, val := range []string{"v", "\x00", " ", long(64)} {
		with(api.ErrArg, func(v *api.Ver) { v.Gone, v.Val = true, val })
	}
	for _, dc := range []int{-1, 4, 5, 255, 1 << 32, lowest, highest} {
		with(api.ErrArg, func(v *api.Ver) { v.DC = dc })
	}
	for _, tx := range []int{-1, 1<<30 + 1, 1 << 31, 1 << 32, 1 << 62, lowest, highest} {
		with(api.ErrArg, func(v *api.Ver) { v.Tx = tx })
	}
	return l
}

// flawsOfMany are too long, and break another rule too.
func flawsOfMany() []flaw {
	var l []flaw
	for _, v := range []api.Ver{
		{Key: "", Val: long(65)},
		{Key: "k", Val: long(65), Gone: true},
		{Key: long(17), Val: "v", Gone: true},
		{Key: long(17), Val: long(65), Gone: true},
		{Key: long(17), Val: "v", DC: -1},
		{Key: long(17), Val: "v", DC: 4},
		{Key: long(17), Val: "v", Tx: -1},
		{Key: long(17), Val: "v", Tx: 1<<30 + 1},
		{Key: "k", Val: long(65), DC: -1},
		{Key: "k", Val: long(65), DC: 4},
		{Key: "k", Val: long(65), Tx: -1},
		{Key: "k", Val: long(65), Tx: 1<<30 + 1},
		{Key: long(1000), Val: long(1000), Gone: true, TS: latest, DC: highest, Tx: lowest},
	} {
		l = append(l, flaw{v, api.ErrLong})
	}
	for _, v := range []api.Ver{
		{},
		{Key: "", Val: long(64), DC: 4, Tx: -1},
		{Key: "", Val: "v", Gone: true},
		{Key: long(16), Val: long(64), Gone: true, DC: 4, Tx: 1<<30 + 1},
	} {
		l = append(l, flaw{v, api.ErrArg})
	}
	return l
}

func allFlaws() []flaw { return append(flaws(), flawsOfMany()...) }

func TestCheckOfRightVersions(t *testing.T) {
	for _, v := range rightOnes() {
		wantError(t, "P10.1", "Check of "+quoted(v), store.Check(v), api.OK)
	}
	for _, v := range strange() {
		wantError(t, "P10.1", "Check of "+quoted(v), store.Check(v), api.OK)
	}
}

func TestCheckOfFlaws(t *testing.T) {
	for _, f := range flaws() {
		wantError(t, "P10.1", "Check of "+quoted(f.v), store.Check(f.v), f.want)
	}
}

func TestCheckOfManyFlaws(t *testing.T) {
	for _, f := range flawsOfMany() {
		wantError(t, "P10.1", "Check of "+quoted(f.v), store.Check(f.v), f.want)
	}
}

// Each length of a key with each length of a value.
func TestCheckOfAllLengths(t *testing.T) {
	for key := range 20 {
		for val := range 70 {
			for _, v := range []api.Ver{{Key: long(key), Val: long(val)}, {Key: long(key), Val: long(val), Gone: true}} {
				want := api.OK
				switch {
				case key > 16 || val > 64:
					want = api.ErrLong
				case key == 0 || v.Gone && val > 0:
					want = api.ErrArg
				}
				wantError(t, "P10.1", fmt.Sprintf("Check of a key of %d bytes, a value of %d, Gone %t", key, val, v.Gone), store.Check(v), want)
			}
		}
	}
}

// Check's error comes ahead of the chain's, where the mark is there, and ahead of ErrOld, where it is below that which is seen at the floor.
func TestPutOfFlaws(t *testing.T) {
	for _, f := range allFlaws() {
		taken := []api.Ver{marked("k", 5, 1, 1), marked("k", 9, 1, 1)}
		for _, s := range []*store.Store{store.New(), with(t, 0, taken), with(t, 8, taken), with(t, 8, times("k", 7, 9), times("z", 5))} {
			of := append(allIn(s, "", ""), f.v)
			want := wholeOf(s, of)
			for range 2 {
				wantPut(t, "P10.1", s, f.v, f.want)
			}
			wantWhole(t, "R6", "behind Put of "+quoted(f.v), s, of, want)
		}
	}
}

func TestPutOfRightVersions(t *testing.T) {
	for _, v := range rightOnes() {
		s := store.New()
		wantPut(t, "P10.1", s, v, api.OK)
		wantHolds(t, "P10.1", "behind Put of "+quoted(v), s, 0, []api.Ver{v})
		wantGet(t, "P10.1", s, v.Key, v.TS, seen{v, true, api.OK})
		wantPut(t, "P10.1", s, v, api.ErrThere)
	}
}
