package store_test

import (
	"fmt"
	"slices"
	"testing"

	"confluence/api"
	"confluence/store"
)

// seenOf is what is seen of keys from the floor on, at each time that tells versions apart.
func seenOf(s *store.Store, keys []string, of []api.Ver) []seen {
	var l []seen
	for _, key := range keys {
		for _, snap := range moments(of, s.Floor()) {
			if snap >= s.Floor() {
				l = append(l, get(s, key, snap))
			}
		}
	}
	return l
}

// keysWithin are the keys of versions that are in a span.
func keysWithin(l []api.Ver, lo, hi string) []string {
	var keys []string
	for _, v := range within(l, lo, hi) {
		keys = append(keys, v.Key)
	}
	return slices.Compact(keys)
}

// wantMoved moves a span from the one store to the other one, which has the same floor ahead.
func wantMoved(t *testing.T, from, to *store.Store, lo, hi string, of []api.Ver) {
	t.Helper()
	call := fmt.Sprintf("the move of %q, %q at the floor %d", lo, hi, from.Floor())
	keys := keysWithin(of, lo, hi)
	want, there, had := seenOf(from, keys, of), allIn(to, "", ""), from.Len()
	all := allIn(from, lo, hi)
	wantCount(t, "P10.2", call+", Load", to.Load(all), len(all))
	wantCount(t, "P10.2", call+", Drop", from.Drop(lo, hi), len(all))
	if got := seenOf(to, keys, of); !slices.Equal(got, want) {
		t.Errorf("P10.2: behind %s there is seen %v, not %v", call, got, want)
	}
	wantList(t, "P10.2", "behind "+call+", what All there", allIn(to, "", ""), byKeys(slices.Concat(there, all)))
	wantList(t, "P10.2", "behind "+call+", what All here of the span", allIn(from, lo, hi), nil)
	wantCount(t, "P10.2", "behind "+call+", Len here", from.Len(), had-len(all))
	for i, got := range seenOf(from, keys, of) {
		if got != (seen{}) {
			t.Errorf("P10.2: behind %s there is still seen here %v, as number %d", call, got, i)
			return
		}
	}
}

func TestMovedSpans(t *testing.T) {
	for _, floor := range []uint64{0, 9, 10, 11, 12, 13, 14, 15, 100, latest} {
		for _, c := range [][2]string{{"", ""}, {"", "a"}, {"a", ""}, {"a", "b"}, {"a\x00", "ab"}, {"aa", "aa\x00"}, {"\xff", ""}, {"m", "n"}, {"\x00", "\x01"}, {"c", "d"}, {"z", "a"}} {
			from, to := with(t, 0, strange()), store.New()
			from.Trim(floor)
			to.Trim(floor)
			wantMoved(t, from, to, c[0], c[1], strange())
			// And back again.
			wantMoved(t, to, from, c[0], c[1], strange())
			fresh := with(t, 0, strange())
			fresh.Trim(floor)
			wantWhole(t, "P10.2", "moved there and back", from, strange(), wholeOf(fresh, strange()))
		}
	}
}

// Shards go about among nodes, each with its own keys, while versions come and floors rise.
func TestMovedAboutAmongNodes(t *testing.T) {
	r := numbers(41)
	cuts := []string{"", "aa", "b", "c\xff", ""}
	for range 60 {
		nodes := []*store.Store{store.New(), store.New(), store.New()}
		alone := store.New()
		owner := []int{0, 0, 0, 0}
		var of []api.Ver
		for range 40 {
			shard := r.below(4)
			lo, hi := cuts[shard], cuts[shard+1]
			switch r.below(4) {
			case 0:
				next := r.below(3)
				if next != owner[shard] {
					wantMoved(t, nodes[owner[shard]], nodes[next], lo, hi, of)
					owner[shard] = next
				}
			case 1:
				floor := uint64(r.below(12))
				went := 0
				for _, s := range nodes {
					went += s.Trim(floor)
				}
				wantCount(t, "P10.2", "Trim among nodes", went, alone.Trim(floor))
			default:
				for _, v := range within(anyVersions(&r, 6), lo, hi) {
					of = append(of, v)
					wantPut(t, "P10.2", nodes[owner[shard]], v, alone.Put(v))
				}
			}
		}
		var all []api.Ver
		for shard := range 4 {
			all = append(all, allIn(nodes[owner[shard]], cuts[shard], cuts[shard+1])...)
		}
		wantList(t, "P10.2", "moved about, what nodes tell", all, allIn(alone, "", ""))
		for shard := range 4 {
			keys := keysWithin(of, cuts[shard], cuts[shard+1])
			if got, want := seenOf(nodes[owner[shard]], keys, of), seenOf(alone, keys, of); !slices.Equal(got, want) {
				t.Fatalf("P10.2: moved about, of the shard %d there is seen %v, not %v", shard, got, want)
			}
		}
	}
}

// What the other store is asked behind the move it answers as this one would have.
func TestMovedTakesWhatComesAsAhead(t *testing.T) {
	r := numbers(42)
	for range 200 {
		here, stays, there := store.New(), store.New(), store.New()
		floor := uint64(r.below(12))
		for _, v := range anyVersions(&r, 30) {
			wantPut(t, "P10.1", stays, v, here.Put(v))
		}
		for _, s := range []*store.Store{here, stays, there} {
			s.Trim(floor)
		}
		wantMoved(t, here, there, "a", "c", allIn(here, "", ""))
		for _, v := range within(anyVersions(&r, 60), "a", "c") {
			wantPut(t, "P10.2", there, v, stays.Put(v))
		}
		wantList(t, "P10.2", "behind a move and more, what All", allIn(there, "", ""), allIn(stays, "a", "c"))
	}
}
