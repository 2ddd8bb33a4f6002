package span_test

import (
	"fmt"
	"strings"
	"testing"

	"confluence/api"
	"confluence/span"
)

// outside are numbers that no shard of a map of so many has.
func outside(shards int) []int {
	return []int{-farOff - 1, -1 << 32, -shards, -2, -1, shards, shards + 1, 8, 9, 1 << 32, 1<<32 + 1, farOff}
}

// cutAt is a map with one cut more, in memory of the test's.
func cutAt(m api.Map, i int, key string) api.Map {
	var c api.Map
	for k, node := range m.Nodes {
		if k == i {
			c.Cuts = append(c.Cuts, key)
			c.Nodes = append(c.Nodes, node)
		}
		c.Nodes = append(c.Nodes, node)
		if k < len(m.Cuts) {
			c.Cuts = append(c.Cuts, m.Cuts[k])
		}
	}
	return c
}

func TestExamples(t *testing.T) {
	m, e := span.Split(span.Whole(0), 2, 0, "m")
	wantMap(t, "P8.1", `Split(Whole(0), 2, 0, "m")`, m, e, mapOf([]int{0, 0}, "m"))
	m, e = span.Move(m, 2, 1, 1)
	wantMap(t, "P8.1", "Move(.., 2, 1, 1)", m, e, mapOf([]int{0, 1}, "m"))
	wantFound(t, m, found{"n", 1, 1}, found{"a", 0, 0})
	for i := range 2 {
		again, e := span.Split(m, 2, i, "m")
		wantRefused(t, "P8.1", fmt.Sprintf(`Split(.., 2, %d, "m") again`, i), again, e, api.ErrPoint)
	}
	merged, e := span.Merge(m, 2, 0)
	wantRefused(t, "P8.1", "Merge(.., 2, 0)", merged, e, api.ErrAway)
}

// pointsOf are keys that cut the shard i of a lettered map, and such as don't: it has the keys from lo on and below hi.
func pointsOf(i, shards int) (right, wrong []string) {
	lo, hi := "", ""
	if i > 0 {
		lo = letters(i)[i-1]
	}
	if i < shards-1 {
		hi = letters(i + 1)[i]
	}
	right = []string{lo + "\x00", lo + strings.Repeat("\x00", 16-len(lo)), lo + strings.Repeat("x", 15-len(lo)), lo + strings.Repeat("x", 16-len(lo))}
	wrong = []string{"", lo, hi, lo + strings.Repeat("x", 17-len(lo)), lo + strings.Repeat("\x00", 17-len(lo)), lo + strings.Repeat("long ", 1000)}
	if i == 0 && shards > 1 {
		right = []string{"a", "\x00", "a\x00", "a" + strings.Repeat("x", 14), "a" + strings.Repeat("x", 15), strings.Repeat("\x00", 16)}
		wrong = []string{"", hi, "a" + strings.Repeat("x", 16), strings.Repeat("\x00", 17), "a" + strings.Repeat("long ", 1000)}
	}
	if lo != "" {
		right = append(right, string(lo[0]+1), lo+"\xff")
		wrong = append(wrong, "\x00", "a", string(lo[0]-1), string(lo[0]-1)+"\xff", string(lo[0]-1)+strings.Repeat("\xff", 15))
	}
	if hi != "" {
		right = append(right, string(hi[0]-1), string(hi[0]-1)+strings.Repeat("\xff", 15))
		wrong = append(wrong, hi+"\x00", hi+"x", string(hi[0]+1), "zz", "\x80", "\xff", string(hi[0]-1)+strings.Repeat("\xff", 16))
	} else {
		right = append(right, "zz", "\x80", "\xff", strings.Repeat("\xff", 16))
		wrong = append(wrong, strings.Repeat("\xff", 17))
	}
	return right, wrong
}

func TestSplitOfEachShard(t *testing.T) {
	for shards := 1; shards <= 8; shards++ {
		for i := range shards {
			right, wrong := pointsOf(i, shards)
			for _, key := range right {
				m := lettered(shards)
				c := splitting(4, i, key)
				got, e := c.do(m)
				if shards == 8 {
					wantRefused(t, "P8.1", c.of(m), got, e, api.ErrFull)
				} else {
					wantMap(t, "P8.1", c.of(m), got, e, cutAt(m, i, key))
				}
			}
			// With 8 shards there would be no room, either.
			for _, key := range wrong {
				m := lettered(shards)
				c := splitting(4, i, key)
				got, e := c.do(m)
				wantRefused(t, "P8.1", c.of(m), got, e, api.ErrPoint)
			}
		}
	}
}

// The keys are right, or too long, empty, or in another shard.
func TestSplitOfNoShard(t *testing.T) {
	for shards := 1; shards <= 8; shards++ {
		m := lettered(shards)
		for _, i := range outside(shards) {
			for _, key := range []string{"a", "c", "z", "", "b", "d", "\xff", strings.Repeat("z", 16), strings.Repeat("z", 17)} {
				if i >= 0 && i < shards {
					continue
				}
				c := splitting(4, i, key)
				got, e := c.do(m)
				wantRefused(t, "P8.1", c.of(m), got, e, api.ErrNone)
			}
		}
	}
}

// Shards that no key parts any more: between a cut and the next one there is none.
func TestSplitOfShardsWithoutRoom(t *testing.T) {
	m := mapOf([]int{0, 1, 2, 0}, "\x00", "a", "a\x00")
	for _, i := range []int{0, 2} {
		for _, key := range []string{"", "\x00", "\x00\x00", "a", "a\x00", "a\x00\x00", "b", "\xff"} {
			c := splitting(3, i, key)
			got, e := c.do(m)
			wantRefused(t, "P8.1", c.of(m), got, e, api.ErrPoint)
		}
	}
	c := splitting(3, 1, "\x00\x00")
	got, e := c.do(m)
	wantMap(t, "P8.1", c.of(m), got, e, mapOf([]int{0, 1, 1, 2, 0}, "\x00", "\x00\x00", "a", "a\x00"))
	c = splitting(3, 3, "a\x00\x00")
	got, e = c.do(m)
	wantMap(t, "P8.1", c.of(m), got, e, mapOf([]int{0, 1, 2, 0, 0}, "\x00", "a", "a\x00", "a\x00\x00"))
}

// Bytes above 127 are above the others, and keys are no texts of letters.
func TestSplitAtBytesAbove127(t *testing.T) {
	m := mapOf([]int{0, 1, 2}, "\x7f", "\xf0\x9f\x98\x80")
	for _, l := range []struct {
		i    int
		key  string
		want api.Errno
	}{
		{0, "\x7e\xff", api.OK}, {0, "\x80", api.ErrPoint}, {0, "\xff", api.ErrPoint},
		{1, "\x80", api.OK}, {1, "\x7f\x00", api.OK}, {1, "\xef\xbf\xbd", api.OK}, {1, "\xf0\x9f\x98\x7f", api.OK}, {1, "\xff", api.ErrPoint}, {1, "a", api.ErrPoint},
		{2, "\xff", api.OK}, {2, "\xf0\x9f\x98\x81", api.OK}, {2, "\xef\xbf\xbd", api.ErrPoint}, {2, "\x7f", api.ErrPoint},
		{2, strings.Repeat("\xff", 16), api.OK}, {2, strings.Repeat("\xff", 17), api.ErrPoint},
		{1, strings.Repeat("\u00e9", 8), api.OK}, {1, strings.Repeat("\u00e9", 9), api.ErrPoint},
	} {
		c := splitting(3, l.i, l.key)
		got, e := c.do(m)
		if l.want == api.OK {
			wantMap(t, "P8.1", c.of(m), got, e, cutAt(m, l.i, l.key))
		} else {
			wantRefused(t, "P8.1", c.of(m), got, e, l.want)
		}
	}
}

func TestSplitUpToMostShards(t *testing.T) {
	for name, next := range map[string]func(k int) (i int, key string){
		"the last one":  func(k int) (int, string) { return min(k, 7), string(rune('b' + k)) },
		"the first one": func(k int) (int, string) { return 0, string(rune('y' - k)) },
	} {
		m := span.Whole(2)
		for k := range 10 {
			i, key := next(k)
			got, e := span.Split(m, 3, i, key)
			call := fmt.Sprintf("Split of %s, %s, at %q", name, told(m), key)
			if k >= 7 {
				wantRefused(t, "P8.1", call, got, e, api.ErrFull)
				continue
			}
			wantMap(t, "P8.1", call, got, e, cutAt(m, i, key))
			wantError(t, "P8.4", "Check behind "+call, span.Check(got, 3), api.OK)
			m = got
		}
	}
}

// Check's error comes ahead of all that is wrong with the other arguments.
func TestCheckAheadOfAll(t *testing.T) {
	wrong := func(m api.Map, nodes int) {
		want := span.Check(m, nodes)
		if want == api.OK {
			return
		}
		for _, c := range changes(nodes) {
			got, e := c.do(m)
			wantRefused(t, "P8.1", c.of(m), got, e, want)
		}
	}
	for _, m := range allMaps() {
		for _, nodes := range append(noNodes, 1, 2, 3, 4) {
			wrong(m, nodes)
		}
	}
	for _, l := range []struct {
		m     api.Map
		nodes int
		want  api.Errno
	}{
		{mapOf([]int{0, 0}, "m"), 0, api.ErrArg},
		{mapOf([]int{0, 0}, "m"), 5, api.ErrArg},
		{mapOf(make([]int, 9), letters(8)...), 2, api.ErrFull},
		{mapOf([]int{0, 0, 0}, "m"), 2, api.ErrForm},
		{mapOf([]int{0, 0, 0}, "m", "c"), 2, api.ErrForm},
		{mapOf([]int{0, 0, 0}, "m", strings.Repeat("n", 17)), 2, api.ErrLong},
		{mapOf([]int{0, 0, 2}, "c", "m"), 2, api.ErrNone},
	} {
		for _, c := range []change{splitting(l.nodes, 0, "a"), splitting(l.nodes, 7, ""), merging(l.nodes, 0), merging(l.nodes, -1), moving(l.nodes, 0, 1), moving(l.nodes, 9, 9)} {
			got, e := c.do(l.m)
			wantRefused(t, "P8.1", c.of(l.m), got, e, l.want)
		}
	}
}

func ExampleSplit() {
	m, e := span.Split(span.Whole(0), 2, 0, "m")
	fmt.Printf("%q %v %d\n", m.Cuts, m.Nodes, e)
	// Output: ["m"] [0 0] 0
}
