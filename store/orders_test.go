package store_test

import (
	"fmt"
	"slices"
	"testing"

	"confluence/api"
	"confluence/store"
)

// together are versions of few keys and few times, no two unlike ones of one key with one mark.
func together(r *numbers, count int) []api.Ver {
	var l []api.Ver
	for _, v := range anyVersions(r, count) {
		alike := func(other api.Ver) bool { return other.Key == v.Key && sameMark(other, v) }
		if store.Check(v) == api.OK && !slices.ContainsFunc(l, alike) {
			l = append(l, v)
		}
	}
	return l
}

// wantSeenFromFloorOn holds a store that is at its highest floor against the plain words: of those up to a time the one with the greatest mark.
func wantSeenFromFloorOn(t *testing.T, how string, s *store.Store, floor uint64, l []api.Ver) {
	t.Helper()
	if s.Floor() != floor {
		t.Errorf("P10.3: %s, the floor is %d, not %d", how, s.Floor(), floor)
	}
	for _, key := range keysOf(l) {
		for _, snap := range moments(l, floor) {
			if snap < floor {
				continue
			}
			want := seen{}
			for _, v := range l {
				if v.Key == key && v.TS <= snap && (!want.there || ahead(want.v, v)) {
					want = seen{v, true, api.OK}
				}
			}
			if got := get(s, key, snap); got != want {
				t.Errorf("P10.3: %s, Get(%q, %d) is %v, not %v; put were %s", how, key, snap, got, want, told(l))
				return
			}
		}
	}
}

// orders goes through all orders of so many numbers, by changes of two of its places.
func orders(l []int, at int, do func(l []int)) {
	if at >= len(l)-1 {
		do(l)
		return
	}
	for i := at; i < len(l); i++ {
		l[at], l[i] = l[i], l[at]
		orders(l, at+1, do)
		l[at], l[i] = l[i], l[at]
	}
}

// All orders of five versions and two floors.
func TestAllOrdersOfFew(t *testing.T) {
	for _, l := range [][]api.Ver{
		times("k", 3, 5, 6, 7, 9),
		{ver("k", 3), gone(ver("k", 5)), ver("k", 7), ver("j", 5), ver("j", 6)},
		{marked("k", 5, 0, 1), marked("k", 5, 0, 2), marked("k", 5, 1, 0), marked("k", 6, 0, 0), marked("j", 5, 0, 1)},
	} {
		for _, floors := range [][2]uint64{{5, 6}, {4, 8}, {6, 6}, {0, 5}, {7, latest}} {
			highest := max(floors[0], floors[1])
			var want []api.Ver
			count := 0
			orders([]int{0, 1, 2, 3, 4, 5, 6}, 0, func(turned []int) {
				s := store.New()
				for _, i := range turned {
					if i < 5 {
						s.Put(l[i])
					} else {
						s.Trim(floors[i-5])
					}
				}
				count++
				how := fmt.Sprintf("in the order %v with the floors %v", turned, floors)
				wantSeenFromFloorOn(t, how, s, highest, l)
				if count == 1 {
					want = allIn(s, "", "")
				}
				wantList(t, "P10.3", how+" what All", allIn(s, "", ""), want)
			})
			wantCount(t, "P10.3", "how many orders", count, 5040)
			if t.Failed() {
				return
			}
		}
	}
}

// Many versions in many orders, with floors raised between in many ways.
func TestManyOrdersOfMany(t *testing.T) {
	r := numbers(51)
	for range 60 {
		l := together(&r, 60)
		floor := uint64(r.below(13))
		straight := store.New()
		straight.Load(l)
		straight.Trim(floor)
		want := wholeOf(straight, l)
		for range 12 {
			s := store.New()
			s.Trim(uint64(r.below(int(floor) + 1)))
			rate := 1 + r.below(20)
			for _, v := range r.shuffled(slices.Concat(l, l[:len(l)/3])) {
				if r.below(rate) == 0 {
					s.Trim(uint64(r.below(int(floor) + 1)))
				}
				s.Put(v)
			}
			if r.below(2) == 0 {
				s.Trim(floor)
				s.Load(r.shuffled(l))
			} else {
				s.Load(r.shuffled(l))
				s.Trim(floor)
			}
			wantSeenFromFloorOn(t, "in any order", s, floor, l)
			wantWhole(t, "P10.3", "in any order", s, l, want)
		}
		if t.Failed() {
			return
		}
	}
}

// The highest floor first, in the midst and last.
func TestFloorFirstAndLast(t *testing.T) {
	r := numbers(52)
	for _, floor := range moments(strange()) {
		for range 4 {
			for _, at := range []int{0, 1, 20, len(strange())} {
				s := store.New()
				turned := r.shuffled(strange())
				s.Load(turned[:at])
				s.Trim(floor)
				s.Load(turned[at:])
				wantSeenFromFloorOn(t, fmt.Sprintf("with the floor behind %d versions", at), s, floor, strange())
			}
		}
	}
}

// Loaded twice, with another order, parts of it alone, and floors raised between.
func TestLoadedAgainInAnyOrder(t *testing.T) {
	r := numbers(53)
	for range 100 {
		l := together(&r, 50)
		s := store.New()
		s.Trim(uint64(r.below(6)))
		s.Load(r.shuffled(l))
		want := wholeOf(s, l)
		for range 3 {
			turned := r.shuffled(l)
			wantCount(t, "P10.4", "Load again, in another order,", s.Load(turned), 0)
			wantCount(t, "P10.4", "Load again of a part", s.Load(turned[r.below(len(l)):]), 0)
			wantWhole(t, "P10.4", "loaded again in another order", s, l, want)
		}
		s.Trim(uint64(r.below(12)))
		want = wholeOf(s, l)
		wantCount(t, "P10.4", "Load again behind Trim", s.Load(r.shuffled(l)), 0)
		wantWhole(t, "P10.4", "loaded again behind Trim", s, l, want)
	}
}
