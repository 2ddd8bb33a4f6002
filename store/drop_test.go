package store_test

import (
	"fmt"
	"slices"
	"testing"

	"confluence/api"
	"confluence/store"
)

func without(l, gone []api.Ver) []api.Ver {
	var left []api.Ver
	for _, v := range l {
		if !slices.Contains(gone, v) {
			left = append(left, v)
		}
	}
	return left
}

// wantDropped holds Drop against what All told ahead of it.
func wantDropped(t *testing.T, s *store.Store, lo, hi string, want []api.Ver) {
	t.Helper()
	call := fmt.Sprintf("Drop(%q, %q)", lo, hi)
	had, floor := allIn(s, "", ""), s.Floor()
	wantList(t, "P10.1", "ahead of "+call+" All", allIn(s, lo, hi), want)
	wantCount(t, "P10.1", call, s.Drop(lo, hi), len(want))
	wantHolds(t, "P10.1", "behind "+call, s, floor, without(had, want))
	wantList(t, "P10.1", "behind "+call+" All of the span", allIn(s, lo, hi), nil)
	wantCount(t, "P10.1", call+" again", s.Drop(lo, hi), 0)
	wantHolds(t, "P10.1", "behind a second "+call, s, floor, without(had, want))
	for _, v := range had {
		if slices.Contains(want, v) {
			wantGet(t, "P10.1", s, v.Key, max(v.TS, floor), seen{})
		}
	}
}

func TestDropOfSpans(t *testing.T) {
	for _, lo := range edges() {
		for i, hi := range edges() {
			// Of so many spans each third one is enough, but for those at the keys.
			if i%3 > 0 && !slices.Contains(strangeKeys(), hi) {
				continue
			}
			s := store.New()
			s.Load(strange())
			wantDropped(t, s, lo, hi, within(strange(), lo, hi))
		}
		if t.Failed() {
			return
		}
	}
}

func TestDropOfNone(t *testing.T) {
	for _, l := range [][]api.Ver{nil, times("k", 3, 7), strange()} {
		s := with(t, 0, l)
		for _, c := range [][2]string{{"n", "n"}, {"n", "k"}, {"k", "k"}, {"k", "a"}, {"\xff", "\x00"}, {"kk", "kl"}, {long(40), "a"}} {
			wantDropped(t, s, c[0], c[1], nil)
		}
		wantHolds(t, "P10.1", "behind Drop of none", s, 0, l)
	}
}

// Shard by shard all goes, in any order of shards.
func TestDropOfAllSpans(t *testing.T) {
	cuts := []string{"", "a", "a\x00", "aa", "ab", "m", "\xff", ""}
	for first := range 7 {
		s := with(t, 0, strange())
		for k := range 7 {
			i := (first + k*3) % 7
			hi := cuts[i+1]
			wantDropped(t, s, cuts[i], hi, within(strange(), cuts[i], hi))
		}
		wantHolds(t, "P10.1", "with all dropped", s, 0, nil)
	}
}

// The floor stays, and what was dropped may come again: nothing of it is seen at the floor any more.
func TestDropLeavesTheFloor(t *testing.T) {
	s := with(t, 0, times("j", 3, 6), times("k", 3, 7, 12))
	wantCount(t, "P10.1", "Trim(8)", s.Trim(8), 2)
	wantPut(t, "P10.1", s, ver("k", 3), api.ErrOld)
	wantDropped(t, s, "k", "l", times("k", 7, 12))
	wantGet(t, "P10.1", s, "k", 7, seen{e: api.ErrOld})
	wantGet(t, "P10.1", s, "k", 8, seen{})
	wantGet(t, "P10.1", s, "k", latest, seen{})
	wantPut(t, "P10.1", s, ver("k", 3), api.OK)
	wantPut(t, "P10.1", s, ver("k", 2), api.ErrOld)
	wantPut(t, "P10.1", s, valued(ver("k", 12), "other"), api.OK)
	wantPut(t, "P10.1", s, ver("j", 3), api.ErrOld)
	wantHolds(t, "P10.1", "behind Drop and Put", s, 8, append(times("j", 6), ver("k", 3), valued(ver("k", 12), "other")))
}

// What stays is seen as it was, whatever it has in common with what went.
func TestWhatDropLeavesIsSeenAsItWas(t *testing.T) {
	for _, floor := range []uint64{0, 11, 12, 40} {
		for _, key := range strangeKeys() {
			s := store.New()
			s.Load(strange())
			s.Trim(floor)
			var rest []string
			for _, other := range strangeKeys() {
				if other != key {
					rest = append(rest, other)
				}
			}
			look := func() []seen {
				var l []seen
				for _, other := range rest {
					for snap := floor; snap < floor+10; snap++ {
						l = append(l, get(s, other, snap))
					}
				}
				return l
			}
			want := look()
			s.Drop(key, key+"\x00")
			if got := look(); !slices.Equal(got, want) {
				t.Errorf("P10.1: behind Drop of %q alone, of others there is seen %v, not %v", key, got, want)
			}
		}
	}
}
