package store_test

import (
	"testing"

	"confluence/api"
	"confluence/store"
)

// A nil store is empty; its Put and Get answer ErrArg, whatever else is wrong.
func TestNilStore(t *testing.T) {
	var s *store.Store
	for range 2 {
		for _, v := range append(rightOnes(), strange()...) {
			wantPut(t, "P10.1: of a nil store", s, v, api.ErrArg)
		}
		for _, f := range allFlaws() {
			wantPut(t, "P10.1: of a nil store", s, f.v, api.ErrArg)
		}
		for _, l := range [][]api.Ver{nil, {}, strange(), times("k", 3, 7)} {
			wantCount(t, "P10.1: of a nil store", "Load", s.Load(l), 0)
		}
		for _, key := range append(strangeKeys(), "", long(17)) {
			for _, snap := range moments(nil) {
				wantGet(t, "P10.1: of a nil store", s, key, snap, seen{e: api.ErrArg})
			}
		}
		for _, c := range [][2]string{{"", ""}, {"a", "b"}, {"b", "a"}, {"", "z"}, {"a", ""}} {
			wantList(t, "P10.1: of a nil store", "All", allIn(s, c[0], c[1]), nil)
			wantCount(t, "P10.1: of a nil store", "Drop", s.Drop(c[0], c[1]), 0)
		}
		for _, floor := range moments(nil) {
			wantCount(t, "P10.1: of a nil store", "Trim", s.Trim(floor), 0)
		}
		wantHolds(t, "P10.1", "of a nil store", s, 0, nil)
	}
}

// calling makes each call of a store with these arguments.
func calling(s *store.Store, v api.Ver, key, hi string, time uint64) {
	store.Check(v)
	s.Put(v)
	s.Load([]api.Ver{v, v, {}, {Key: key}})
	s.Get(key, time)
	for range s.All(key, hi) {
	}
	for range s.All(hi, key) {
		break
	}
	s.Trim(time)
	s.Get(key, time)
	s.Put(v)
	s.Drop(key, hi)
	s.Floor()
	s.Len()
	store.New()
}

func TestNothingPanics(t *testing.T) {
	var v api.Ver
	defer func() {
		if thrown := recover(); thrown != nil {
			t.Errorf("R1: a call with %s panics: %v", quoted(v), thrown)
		}
	}()
	versions := append(rightOnes(), strange()...)
	for _, f := range allFlaws() {
		versions = append(versions, f.v)
	}
	for _, v = range versions {
		held := store.New()
		held.Load(strange())
		for _, s := range []*store.Store{nil, store.New(), held} {
			for _, time := range []uint64{0, 12, 1 << 63, latest} {
				for _, hi := range []string{"", "a", v.Key, v.Key + "\x00", "\xff\xff\xff"} {
					calling(s, v, v.Key, hi, time)
				}
			}
		}
	}
}
