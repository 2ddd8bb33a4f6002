package store_test

import (
	"fmt"
	"slices"
	"testing"

	"confluence/api"
	"confluence/store"
)

// within are the versions of the keys in a span, key by key as the chapter of spans says it.
func within(l []api.Ver, lo, hi string) []api.Ver {
	var in []api.Ver
	for _, v := range l {
		if v.Key >= lo && (hi == "" || v.Key < hi) {
			in = append(in, v)
		}
	}
	return in
}

// edges are texts at the keys that there are, just behind them, and far from them.
func edges() []string {
	l := []string{"", "A", "aaaaaaaaaaaaaaaaa", long(40), "\xfe\xff", "\xff\xff\xff"}
	for _, key := range strangeKeys() {
		last := len(key) - 1
		l = append(l, key, key+"\x00", key[:last]+string([]byte{key[last] - 1}), key[:last]+string([]byte{key[last] + 1}))
	}
	slices.Sort(l)
	return slices.Compact(l)
}

func TestAllOfStrangeKeys(t *testing.T) {
	r := numbers(31)
	for range 5 {
		s := with(t, 0, r.shuffled(strange()))
		for _, lo := range edges() {
			for _, hi := range edges() {
				wantList(t, "P10.1", fmt.Sprintf("All(%q, %q)", lo, hi), allIn(s, lo, hi), within(strange(), lo, hi))
			}
			if t.Failed() {
				return
			}
		}
	}
}

func TestAllOfSpans(t *testing.T) {
	l := []api.Ver{ver("a", 1), ver("a", 2), ver("ab", 1), ver("b", 3), ver("b", 4), ver("c", 1)}
	s := with(t, 0, []api.Ver{l[4], l[5], l[0], l[3], l[2], l[1]})
	for _, c := range []struct {
		lo, hi     string
		from, upto int
	}{
		{"", "", 0, 6}, {"a", "", 0, 6}, {"a\x00", "", 2, 6}, {"ab", "", 2, 6}, {"ab\x00", "", 3, 6}, {"b", "", 3, 6}, {"b\x00", "", 5, 6}, {"c", "", 5, 6}, {"c\x00", "", 6, 6}, {"d", "", 6, 6},
		{"", "a", 0, 0}, {"", "a\x00", 0, 2}, {"", "ab", 0, 2}, {"", "b", 0, 3}, {"", "c", 0, 5}, {"", "c\x00", 0, 6}, {"", "z", 0, 6},
		{"a", "b", 0, 3}, {"a", "c", 0, 5}, {"ab", "b", 2, 3}, {"a\x00", "b", 2, 3}, {"b", "b\x00", 3, 5},
		// Of these none is in the span.
		{"a", "a", 0, 0}, {"b", "a", 0, 0}, {"c", "a", 0, 0}, {"z", "\x00", 0, 0}, {"b\x00", "c", 5, 5}, {"b\x00", "b", 0, 0}, {long(40), "a", 0, 0},
	} {
		wantList(t, "P10.1", fmt.Sprintf("All(%q, %q)", c.lo, c.hi), allIn(s, c.lo, c.hi), l[c.from:c.upto])
	}
}

func TestAllOfNone(t *testing.T) {
	for _, s := range []*store.Store{store.New(), nil} {
		for _, lo := range edges() {
			for _, hi := range []string{"", "a", "\xff\xff", lo} {
				wantList(t, "P10.1", "All of none", allIn(s, lo, hi), nil)
			}
		}
	}
}

// Left behind each of its versions: of one key's, between two keys, and behind the last.
func TestAllLeftEarlyAndRangedAgain(t *testing.T) {
	s := with(t, 0, strange())
	for _, c := range [][2]string{{"", ""}, {"a", "b"}, {"\x01", "m"}, {"z", ""}, {"b", "a"}} {
		want := within(strange(), c[0], c[1])
		versions := s.All(c[0], c[1])
		for left := 1; left <= len(want)+1; left++ {
			var got []api.Ver
			for v := range versions {
				got = append(got, v)
				if len(got) == left {
					break
				}
			}
			wantList(t, "R7", fmt.Sprintf("All(%q, %q), left behind %d,", c[0], c[1], left), got, want[:min(left, len(want))])
		}
		for range 2 {
			wantList(t, "R7", fmt.Sprintf("All(%q, %q), ranged over again,", c[0], c[1]), slices.Collect(versions), want)
		}
	}
	wantHolds(t, "R7", "behind All left early", s, 0, strange())
}

// Behind the answer that it is to be left, nothing is told any more: not of the same key, not of the next one.
func TestAllTellsNothingWhenLeft(t *testing.T) {
	s := with(t, 0, strange())
	for left := range strange() {
		count := 0
		s.All("", "")(func(api.Ver) bool {
			count++
			return count <= left
		})
		wantCount(t, "R7", fmt.Sprintf("how many are told, left behind %d,", left+1), count, left+1)
	}
}

func TestAllWithinAll(t *testing.T) {
	s := with(t, 0, strange())
	var got []api.Ver
	versions := s.All("", "")
	for v := range versions {
		got = append(got, v)
		wantList(t, "R7", "All in the midst of All of another span", allIn(s, v.Key, ""), within(strange(), v.Key, ""))
		wantList(t, "R7", "All in the midst of itself", slices.Collect(versions), strange())
		wantGet(t, "R7", s, v.Key, latest, get(s, v.Key, latest))
	}
	wantList(t, "R7", "All, with All in its midst,", got, strange())
}

// What was put, trimmed and dropped is seen in what is told next.
func TestAllBehindCalls(t *testing.T) {
	s := with(t, 0, times("k", 3, 5, 7))
	wantList(t, "P10.1", "All", allIn(s, "", ""), times("k", 3, 5, 7))
	wantPut(t, "P10.1", s, ver("a", 6), api.OK)
	wantPut(t, "P10.1", s, ver("k", 4), api.OK)
	wantList(t, "P10.1", "All behind Put", allIn(s, "", ""), append(times("a", 6), times("k", 3, 4, 5, 7)...))
	s.Trim(5)
	wantList(t, "P10.1", "All behind Trim", allIn(s, "", ""), append(times("a", 6), times("k", 5, 7)...))
	s.Drop("a", "b")
	wantList(t, "P10.1", "All behind Drop", allIn(s, "", ""), times("k", 5, 7))
	s.Drop("", "")
	wantList(t, "P10.1", "All behind Drop of all", allIn(s, "", ""), nil)
	wantPut(t, "P10.1", s, ver("k", 3), api.OK)
	wantList(t, "P10.1", "All behind Put behind Drop", allIn(s, "", ""), times("k", 3))
}

// One store is ranged over while another one is loaded with what it tells.
func TestAllPutIntoAnotherStore(t *testing.T) {
	s, other := with(t, 0, strange()), store.New()
	for v := range s.All("", "") {
		wantPut(t, "P10.1", other, v, api.OK)
	}
	wantWhole(t, "P10.1", "put into it one by one", other, strange(), wholeOf(s, strange()))
}

func TestAllOfManyKeys(t *testing.T) {
	r := numbers(32)
	var l []api.Ver
	for i := range 3000 {
		key := []byte(fmt.Sprint(i * 7 % 3000))
		key[0] += byte(200 * (i % 2))
		l = append(l, ver(string(key), uint64(i%5)), gone(ver(string(key), uint64(i%5+1))))
	}
	s := with(t, 0, r.shuffled(l))
	wantHolds(t, "P10.1", "with many keys", s, 0, byKeys(l))
	wantList(t, "P10.1", "All of a span of many", allIn(s, "25", "8"), within(byKeys(l), "25", "8"))
}
