package span_test

import (
	"fmt"
	"strings"
	"testing"

	"confluence/api"
	"confluence/span"
)

// found is where a key is, and whose.
type found struct {
	key         string
	place, node int
}

func wantFound(t *testing.T, m api.Map, want ...found) {
	t.Helper()
	for _, f := range want {
		if got := span.Find(m, f.key); got != f.place {
			t.Errorf("P8.1: Find(%s, %q) is %d, not %d", told(m), f.key, got, f.place)
		}
		if got := span.Owner(m, f.key); got != f.node {
			t.Errorf("P8.1: Owner(%s, %q) is %d, not %d", told(m), f.key, got, f.node)
		}
	}
}

func TestFindInRightMaps(t *testing.T) {
	long := strings.Repeat("k", 10000)
	wantFound(t, mapOf([]int{3}), found{"", 0, 3}, found{"a", 0, 3}, found{"\x00", 0, 3}, found{"\xff", 0, 3}, found{long, 0, 3})
	wantFound(t, mapOf([]int{2, 1, 0}, "c", "m"),
		found{"", 0, 2}, found{"\x00", 0, 2}, found{"a", 0, 2}, found{"bzz", 0, 2}, found{"b\xff\xff", 0, 2},
		found{"c", 1, 1}, found{"c\x00", 1, 1}, found{"d", 1, 1}, found{"l\xff", 1, 1}, found{long, 1, 1},
		found{"m", 2, 0}, found{"m\x00", 2, 0}, found{"mm", 2, 0}, found{"n", 2, 0}, found{"\x80", 2, 0}, found{"\xff" + long, 2, 0})
	wantFound(t, mapOf([]int{0, 1, 2, 3}, "a", "a\x00", "ab"),
		found{"", 0, 0}, found{"A", 0, 0}, found{"a", 1, 1}, found{"a\x00", 2, 2}, found{"a\x00\x00", 2, 2}, found{"aa", 2, 2}, found{"ab", 3, 3}, found{"abc", 3, 3}, found{"b", 3, 3})
	wantFound(t, mapOf([]int{0, 1, 2}, "\x7f", "\x80"),
		found{"\x7e\xff", 0, 0}, found{"\x7f", 1, 1}, found{"\x7f\xff", 1, 1}, found{"\x80", 2, 2}, found{"\xc3\xa9", 2, 2}, found{"\xff", 2, 2})
	wantFound(t, mapOf([]int{0, 1, 2}, "\xf0\x9f\x98\x80", "\xff"), found{"\xef\xbf\xbd", 0, 0}, found{"\xf0\x9f\x98\x80", 1, 1}, found{"\xfe", 1, 1}, found{"\xff", 2, 2})
	wantFound(t, mapOf([]int{1, 0, 1, 0, 1, 0, 1, 0}, letters(7)...),
		found{"a", 0, 1}, found{"b", 1, 0}, found{"c", 1, 0}, found{"d", 2, 1}, found{"h", 4, 1}, found{"m", 6, 1}, found{"n", 7, 0}, found{"z", 7, 0})
}

// Of any map: each cut counts that isn't above the key, wherever it stands; and Nodes are told as they stand.
func TestFindInWrongMaps(t *testing.T) {
	wantFound(t, api.Map{}, found{"", 0, -1}, found{"a", 0, -1})
	wantFound(t, mapOf(nil, "c", "m"), found{"", 0, -1}, found{"b", 0, -1}, found{"c", 1, -1}, found{"z", 2, -1})
	wantFound(t, mapOf([]int{2}, "c", "m"), found{"", 0, 2}, found{"b", 0, 2}, found{"c", 1, -1}, found{"m", 2, -1}, found{"z", 2, -1})
	wantFound(t, mapOf([]int{2, 3}, "c", "m"), found{"b", 0, 2}, found{"c", 1, 3}, found{"l", 1, 3}, found{"m", 2, -1})
	wantFound(t, mapOf([]int{2, 3, 1, 0, 2}, "c", "m"), found{"b", 0, 2}, found{"c", 1, 3}, found{"m", 2, 1}, found{"\xff", 2, 1})
	wantFound(t, mapOf([]int{3, 2}), found{"", 0, 3}, found{"z", 0, 3})
	wantFound(t, mapOf([]int{-7, farOff, -farOff - 1}, "c", "m"), found{"b", 0, -7}, found{"c", 1, farOff}, found{"m", 2, -farOff - 1})
	wantFound(t, mapOf([]int{0, 1, 2}, "m", "c"), found{"b", 0, 0}, found{"c", 1, 1}, found{"d", 1, 1}, found{"m", 2, 2}, found{"n", 2, 2})
	wantFound(t, mapOf([]int{0, 1, 2, 3}, "x", "c", "m"), found{"b", 0, 0}, found{"c", 1, 1}, found{"l", 1, 1}, found{"m", 2, 2}, found{"w", 2, 2}, found{"x", 3, 3})
	wantFound(t, mapOf([]int{0, 1, 2, 3}, "c", "x", "m"), found{"b", 0, 0}, found{"d", 1, 1}, found{"n", 2, 2}, found{"y", 3, 3})
	wantFound(t, mapOf([]int{0, 1, 2, 3}, "m", "m", "m"), found{"l", 0, 0}, found{"m", 3, 3}, found{"n", 3, 3})
	wantFound(t, mapOf([]int{0, 1, 2}, "", "m"), found{"", 1, 1}, found{"a", 1, 1}, found{"m", 2, 2})
	wantFound(t, mapOf([]int{0, 1, 2}, "m", ""), found{"", 1, 1}, found{"a", 1, 1}, found{"m", 2, 2})
	wantFound(t, mapOf([]int{0, 1}, strings.Repeat("m", 17)), found{strings.Repeat("m", 16), 0, 0}, found{strings.Repeat("m", 17), 1, 1})
	wantFound(t, mapOf(make([]int, 9), letters(8)...), found{"z", 8, 0}, found{"c", 1, 0})
	wantFound(t, mapOf(make([]int, 1000), strings.Split(strings.Repeat("m ", 999), " ")[:999]...), found{"l", 0, 0}, found{"m", 999, 0})
	wantFound(t, mapOf(make([]int, 500), strings.Split(strings.Repeat("m ", 999), " ")[:999]...), found{"l", 0, 0}, found{"m", 999, -1})
}

// countOf is how many of a map's cuts aren't above a key.
func countOf(m api.Map, key string) int {
	count := len(m.Cuts)
	for _, cut := range m.Cuts {
		if above(cut, key) {
			count--
		}
	}
	return count
}

func TestFindOfManyKeys(t *testing.T) {
	for _, m := range allMaps() {
		for _, key := range keysAbout(m) {
			f := found{key, countOf(m, key), -1}
			if f.place < len(m.Nodes) {
				f.node = m.Nodes[f.place]
			}
			wantFound(t, m, f)
		}
	}
}

func wantWithin(t *testing.T, key, lo, hi string, want bool) {
	t.Helper()
	if got := span.Within(key, lo, hi); got != want {
		t.Errorf("P8.1: Within(%q, %q, %q) is %t", key, lo, hi, got)
	}
}

func TestWithin(t *testing.T) {
	for _, l := range []struct {
		lo, hi  string
		in, out []string
	}{
		{"", "", []string{"", "\x00", "a", "\xff", strings.Repeat("\xff", 100)}, nil},
		{"", "m", []string{"", "\x00", "a", "l", "l\xff"}, []string{"m", "m\x00", "ma", "n", "\x80"}},
		{"c", "", []string{"c", "c\x00", "d", "z", "\xff", strings.Repeat("\xff", 100)}, []string{"", "\x00", "a", "b", "b\xff"}},
		{"c", "m", []string{"c", "c\x00", "d", "l", "l\xff\xff", "lm"}, []string{"", "b", "b\xff", "m", "m\x00", "n", "\xff"}},
		{"c", "c\x00", []string{"c"}, []string{"", "b", "c\x00", "c\x00\x00", "ca"}},
		{"c", "c", nil, []string{"", "b", "c", "c\x00", "d"}},
		{"m", "c", nil, []string{"", "b", "c", "d", "l", "m", "n"}},
		{"ab", "a", nil, []string{"", "a", "aa", "ab", "abc"}},
		{"a", "ab", []string{"a", "a\x00", "aa", "aazz"}, []string{"", "ab", "ab\x00", "b"}},
		{"\x7f", "\x80", []string{"\x7f", "\x7f\xff"}, []string{"a", "\x80", "\xff"}},
		{"\x80", "\xff", []string{"\x80", "\xfe\xff", "\xc3\xa9"}, []string{"\x7f", "\xff", "\xff\x00", "z"}},
		{strings.Repeat("k", 20), strings.Repeat("l", 20), []string{strings.Repeat("k", 20), strings.Repeat("k", 30), "l"}, []string{strings.Repeat("k", 19), strings.Repeat("l", 20)}},
	} {
		for _, key := range l.in {
			wantWithin(t, key, l.lo, l.hi, true)
		}
		for _, key := range l.out {
			wantWithin(t, key, l.lo, l.hi, false)
		}
	}
}

// shortTexts are all texts of up to two of these bytes.
func shortTexts() []string {
	l := []string{""}
	for _, a := range []byte("\x00am\x7f\x80\xff") {
		l = append(l, string([]byte{a}))
		for _, b := range []byte("\x00am\x7f\x80\xff") {
			l = append(l, string([]byte{a, b}))
		}
	}
	return l
}

func TestWithinOfAllShortTexts(t *testing.T) {
	for _, lo := range shortTexts() {
		for _, hi := range shortTexts() {
			for _, key := range shortTexts() {
				wantWithin(t, key, lo, hi, !above(lo, key) && (len(hi) == 0 || above(hi, key)))
			}
		}
	}
}

// wantParted holds that each key is in just one shard, that of Find, whose node is its Owner.
func wantParted(t *testing.T, promise string, m api.Map, keys []string) {
	t.Helper()
	for _, key := range keys {
		var in []numbered
		for _, s := range shardsOf(m) {
			if span.Within(key, s.shard.Lo, s.shard.Hi) {
				in = append(in, s)
			}
		}
		if len(in) != 1 {
			t.Errorf("%s: in %s the key %q is in the shards %v", promise, told(m), key, in)
			continue
		}
		if i := span.Find(m, key); i != in[0].number {
			t.Errorf("%s: Find(%s, %q) is %d, but it is in shard %d", promise, told(m), key, i, in[0].number)
		}
		if node := span.Owner(m, key); node != in[0].shard.Node {
			t.Errorf("%s: Owner(%s, %q) is %d, but shard %d is at node %d", promise, told(m), key, node, in[0].number, in[0].shard.Node)
		}
		if s, there := span.At(m, span.Find(m, key)); !there || s != in[0].shard {
			t.Errorf("%s: the shard of Find(%s, %q) is %s, %t, not %s", promise, told(m), key, quoted(s), there, quoted(in[0].shard))
		}
	}
}

func TestRightMapsPartTheKeys(t *testing.T) {
	for _, m := range rightMaps() {
		wantParted(t, "P8.2", m, keysAbout(m))
		wantParted(t, "P8.2", m, shortTexts())
	}
}

// Of keys that rise none is in a shard ahead of those that have the keys below it.
func TestFindRisesWithTheKeys(t *testing.T) {
	for _, m := range rightMaps() {
		last := 0
		for a := range 256 {
			for _, rest := range []string{"", "\x00", "a", "\x80", "\xff\xff"} {
				key := string([]byte{byte(a)}) + rest
				i := span.Find(m, key)
				if i < last || i > len(m.Cuts) {
					t.Errorf("P8.2: Find(%s, %q) is %d, behind %d of a key below", told(m), key, i, last)
				}
				last = i
			}
		}
	}
}

func ExampleFind() {
	m := api.Map{Cuts: []string{"m"}, Nodes: []int{0, 1}}
	fmt.Println(span.Find(m, "n"), span.Owner(m, "n"), span.Owner(m, "a"))
	// Output: 1 1 0
}
