package store_test

import (
	"fmt"
	"math"
	"slices"
	"strings"
	"testing"

	"confluence/api"
	"confluence/store"
)

const (
	latest  = math.MaxUint64
	highest = math.MaxInt
	lowest  = math.MinInt
)

// numbers is a row of numbers that is the same each time.
type numbers uint64

func (n *numbers) next() uint64 {
	*n = *n*6364136223846793005 + 1442695040888963407
	x := uint64(*n)
	return (x ^ x>>29) * 0x9e3779b97f4a7c15
}

func (n *numbers) below(bound int) int { return int(n.next() >> 12 % uint64(bound)) }

// shuffled are the same versions in another order.
func (n *numbers) shuffled(l []api.Ver) []api.Ver {
	l = slices.Clone(l)
	for i := range l {
		k := i + n.below(len(l)-i)
		l[i], l[k] = l[k], l[i]
	}
	return l
}

// marked is the version of this key and mark; its value tells both.
func marked(key string, ts uint64, dc, tx int) api.Ver {
	return api.Ver{Key: key, Val: fmt.Sprintf("%.8q %d %d %d", key, ts, dc, tx), TS: ts, DC: dc, Tx: tx}
}

func ver(key string, ts uint64) api.Ver { return marked(key, ts, 0, 0) }

// valued is the version with another value.
func valued(v api.Ver, val string) api.Ver {
	v.Val = val
	return v
}

func gone(v api.Ver) api.Ver {
	v.Val, v.Gone = "", true
	return v
}

// times are versions of a key, of these times.
func times(key string, l ...uint64) []api.Ver {
	var versions []api.Ver
	for _, ts := range l {
		versions = append(versions, ver(key, ts))
	}
	return versions
}

func quoted(v api.Ver) string {
	return fmt.Sprintf("(%q %q %t, %d %d %d)", v.Key, v.Val, v.Gone, v.TS, v.DC, v.Tx)
}

func told(l []api.Ver) string {
	var b strings.Builder
	fmt.Fprintf(&b, "%d versions:", len(l))
	for i, v := range l {
		if i >= 12 {
			return b.String() + " .."
		}
		fmt.Fprintf(&b, " %s", quoted(v))
	}
	return b.String()
}

// ahead tells whether a's mark is ahead of b's.
func ahead(a, b api.Ver) bool {
	switch {
	case a.TS != b.TS:
		return a.TS < b.TS
	case a.DC != b.DC:
		return a.DC < b.DC
	}
	return a.Tx < b.Tx
}

func sameMark(a, b api.Ver) bool { return !ahead(a, b) && !ahead(b, a) }

// likenesses are right versions with the key and the mark of v that differ from it in one field else.
func likenesses(v api.Ver) []api.Ver {
	if v.Gone {
		back := v
		back.Gone = false
		return []api.Ver{back}
	}
	l := []api.Ver{valued(v, v.Val+"x")}
	if v.Val == "" {
		return append(l, gone(v))
	}
	return append(l, valued(v, ""), valued(v, v.Val[1:]))
}

func wantError(t *testing.T, promise, call string, e, want api.Errno) {
	t.Helper()
	if e != want {
		t.Errorf("%s: %s has error %d, not %d", promise, call, e, want)
	}
}

func wantCount(t *testing.T, promise, call string, got, want int) {
	t.Helper()
	if got != want {
		t.Errorf("%s: %s is %d, not %d", promise, call, got, want)
	}
}

func wantList(t *testing.T, promise, call string, got, want []api.Ver) {
	t.Helper()
	if !slices.Equal(got, want) {
		t.Errorf("%s: %s tells %s, not %s", promise, call, told(got), told(want))
	}
}

func wantPut(t *testing.T, promise string, s *store.Store, v api.Ver, want api.Errno) {
	t.Helper()
	wantError(t, promise, "Put of "+quoted(v), s.Put(v), want)
}

// with is a store with this floor and these versions.
func with(t *testing.T, floor uint64, lists ...[]api.Ver) *store.Store {
	t.Helper()
	s := store.New()
	s.Trim(floor)
	for _, l := range lists {
		for _, v := range l {
			wantPut(t, "P10.1", s, v, api.OK)
		}
	}
	return s
}

func allIn(s *store.Store, lo, hi string) []api.Ver {
	var l []api.Ver
	for v := range s.All(lo, hi) {
		l = append(l, v)
	}
	return l
}

// wantHolds holds all that a store tells without being asked for a time.
func wantHolds(t *testing.T, promise, when string, s *store.Store, floor uint64, want []api.Ver) {
	t.Helper()
	wantList(t, promise, when+", All", allIn(s, "", ""), want)
	wantCount(t, promise, when+", Len", s.Len(), len(want))
	if s.Floor() != floor {
		t.Errorf("%s: %s, Floor is %d, not %d", promise, when, s.Floor(), floor)
	}
}

// seen is what Get answers.
type seen struct {
	v     api.Ver
	there bool
	e     api.Errno
}

func (s seen) String() string {
	return fmt.Sprintf("%s, %t with error %d", quoted(s.v), s.there, s.e)
}

func get(s *store.Store, key string, snap uint64) seen {
	v, there, e := s.Get(key, snap)
	return seen{v, there, e}
}

func wantGet(t *testing.T, promise string, s *store.Store, key string, snap uint64, want seen) {
	t.Helper()
	if got := get(s, key, snap); got != want {
		t.Errorf("%s: Get(%q, %d) is %v, not %v", promise, key, snap, got, want)
	}
}

// moments are the times that tell versions apart, and some far from them; they rise.
func moments(l []api.Ver, more ...uint64) []uint64 {
	some := []uint64{0, 1, 1<<63 - 1, 1 << 63, latest - 1, latest}
	for _, v := range l {
		some = append(some, v.TS-1, v.TS, v.TS+1)
	}
	for _, time := range more {
		some = append(some, time-1, time, time+1)
	}
	slices.Sort(some)
	return slices.Compact(some)
}

// keysOf are the keys of versions, and some that have none; they rise.
func keysOf(l []api.Ver) []string {
	keys := []string{"", "nobody's"}
	for _, v := range l {
		keys = append(keys, v.Key)
	}
	slices.Sort(keys)
	return slices.Compact(keys)
}

// whole is all that a store tells: what it has, and what is seen of each key at each time.
type whole struct {
	floor uint64
	len   int
	all   []api.Ver
	seen  []seen
}

// wholeOf asks for the keys and the times of these versions.
func wholeOf(s *store.Store, of []api.Ver) whole {
	w := whole{floor: s.Floor(), len: s.Len(), all: allIn(s, "", "")}
	for _, key := range keysOf(of) {
		for _, snap := range moments(of, s.Floor()) {
			w.seen = append(w.seen, get(s, key, snap))
		}
	}
	return w
}

func (w whole) same(other whole) bool {
	return w.floor == other.floor && w.len == other.len && slices.Equal(w.all, other.all) && slices.Equal(w.seen, other.seen)
}

func wantWhole(t *testing.T, promise, when string, s *store.Store, of []api.Ver, want whole) {
	t.Helper()
	got := wholeOf(s, of)
	if !got.same(want) {
		t.Errorf("%s: %s a store of floor %d, Len %d has %s; not of floor %d, Len %d with %s", promise, when, got.floor, got.len, told(got.all), want.floor, want.len, told(want.all))
		for i := range min(len(got.seen), len(want.seen)) {
			if got.seen[i] != want.seen[i] {
				t.Errorf("%s: there is seen %v, not %v", promise, got.seen[i], want.seen[i])
				break
			}
		}
	}
}

// strangeKeys rise: of each one but the last the next one begins with it, or is above it for a byte.
func strangeKeys() []string {
	return []string{"\x00", "\x00\x00", "\x00\x01", "\x01", "a", "a\x00", "a\x00b", "aa", "aaaaaaaaaaaaaaaa", "ab", "abc", "a\xff", "b", "m", "z", "\xc3\xa4", "\xff", "\xff\x00", "\xff\xff", strings.Repeat("\xff", 16)}
}

// strange are versions of many keys: of each another count of them; keys rise, and of each the marks.
func strange() []api.Ver {
	var l []api.Ver
	for i, key := range strangeKeys() {
		for k := range 1 + i%4 {
			v := marked(key, uint64(10+i%3+k), k%2, i)
			if (i+k)%5 == 3 {
				v = gone(v)
			}
			l = append(l, v)
		}
	}
	return l
}

// byKeys has versions by rising keys, and of each key by rising marks.
func byKeys(l []api.Ver) []api.Ver {
	l = slices.Clone(l)
	slices.SortFunc(l, func(a, b api.Ver) int {
		switch {
		case a.Key != b.Key && a.Key < b.Key, a.Key == b.Key && ahead(a, b):
			return -1
		case a == b:
			return 0
		}
		return 1
	})
	return l
}

// anyVersion has one of a few keys and one of a few marks; now and then it isn't right.
func anyVersion(r *numbers) api.Ver {
	v := marked([]string{"a", "aa", "b", "c\xff", "d"}[r.below(5)], uint64(r.below(12)), r.below(3), r.below(3))
	switch r.below(20) {
	case 0, 1:
		return valued(v, "other")
	case 2, 3:
		return gone(v)
	case 4:
		all := allFlaws()
		return all[r.below(len(all))].v
	}
	return v
}

func anyVersions(r *numbers, count int) []api.Ver {
	var l []api.Ver
	for range count {
		l = append(l, anyVersion(r))
	}
	return l
}
