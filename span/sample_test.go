package span_test

import (
	"fmt"
	"math"
	"slices"
	"strings"
	"testing"

	"confluence/api"
	"confluence/span"
)

const farOff = math.MaxInt

// numbers is a row of numbers that is the same each time.
type numbers uint64

func (n *numbers) next() uint64 {
	*n = *n*6364136223846793005 + 1442695040888963407
	x := uint64(*n)
	return (x ^ x>>29) * 0x9e3779b97f4a7c15
}

func (n *numbers) below(bound int) int { return int(n.next() >> 12 % uint64(bound)) }

// mapOf is a map with these nodes and cuts, right or not.
func mapOf(nodes []int, cuts ...string) api.Map { return api.Map{Cuts: cuts, Nodes: nodes} }

func told(m api.Map) string { return fmt.Sprintf("{cuts %q, nodes %v}", m.Cuts, m.Nodes) }

func same(a, b api.Map) bool {
	return slices.Equal(a.Cuts, b.Cuts) && slices.Equal(a.Nodes, b.Nodes)
}

// own is the same map in memory of the test's.
func own(m api.Map) api.Map {
	var c api.Map
	c.Cuts = append(c.Cuts, m.Cuts...)
	c.Nodes = append(c.Nodes, m.Nodes...)
	return c
}

func wantError(t *testing.T, promise, call string, e, want api.Errno) {
	t.Helper()
	if e != want {
		t.Errorf("%s: %s has error %d, not %d", promise, call, e, want)
	}
}

func wantMap(t *testing.T, promise, call string, m api.Map, e api.Errno, want api.Map) {
	t.Helper()
	if !same(m, want) || e != api.OK {
		t.Errorf("%s: %s is %s with error %d, not %s", promise, call, told(m), e, told(want))
	}
}

// wantRefused holds what a call that is to answer a map answered.
func wantRefused(t *testing.T, promise, call string, m api.Map, e, want api.Errno) {
	t.Helper()
	wantError(t, promise, call, e, want)
	if len(m.Cuts) > 0 || len(m.Nodes) > 0 {
		t.Errorf("R5: %s tells %s beside error %d", call, told(m), e)
	}
}

// letters are so many cuts: b, d, f and so on, so that there is room between each two.
func letters(count int) []string {
	var l []string
	for i := range count {
		l = append(l, string(rune('b'+2*i)))
	}
	return l
}

// nodesInTurn are so many nodes, each at another one than those beside it: 0, 1, 2, 3, 0 and so on.
func nodesInTurn(count int) []int {
	var l []int
	for i := range count {
		l = append(l, i%4)
	}
	return l
}

// lettered is a right map of so many shards.
func lettered(shards int) api.Map { return mapOf(nodesInTurn(shards), letters(shards-1)...) }

// rightMaps are right over four nodes.
func rightMaps() []api.Map {
	zeros, high := strings.Repeat("\x00", 16), strings.Repeat("\xff", 16)
	l := []api.Map{
		mapOf([]int{0}),
		mapOf([]int{3}),
		mapOf([]int{0, 0}, "m"),
		mapOf([]int{2, 0}, "\x00"),
		mapOf([]int{1, 1}, zeros),
		mapOf([]int{0, 3}, high),
		mapOf([]int{0, 1, 0}, "a", "ab"),
		mapOf([]int{1, 1, 1}, "a", "a\x00"),
		mapOf([]int{3, 3, 2, 2}, "\x7f", "\x80", "\xff"),
		mapOf([]int{0, 0, 0, 0, 0}, "\xc3\xa9", "\xed\xa0\x80", "\xef\xbf\xbd", "\xff\xfe"),
		mapOf([]int{0, 1, 2, 3, 3, 1, 0, 0}, "\x00", zeros, "a", "a\x00", "ab", "\x80", high),
		mapOf([]int{2, 2, 2, 2, 2, 2, 2, 2}, "k", "key", "key 000000000001", "key 000000000002", "keys", "l", "m"),
	}
	for shards := 1; shards <= 8; shards++ {
		l = append(l, lettered(shards))
	}
	return l
}

// wrongMaps are wrong whatever the nodes.
func wrongMaps() []api.Map {
	long := strings.Repeat("n", 17)
	return []api.Map{
		{},
		{Cuts: []string{}, Nodes: []int{}},
		mapOf(nil, "m"),
		mapOf([]int{0}, "m"),
		mapOf([]int{0, 1}),
		mapOf([]int{0, 1, 2}),
		mapOf([]int{0, 1, 2}, "m"),
		mapOf([]int{0, 1}, "c", "m"),
		mapOf([]int{0, 1}, "c", "m", "x", "y"),
		mapOf(nodesInTurn(9), letters(8)...),
		mapOf(nodesInTurn(12), letters(3)...),
		mapOf(nodesInTurn(25), letters(24)...),
		mapOf([]int{0, 1}, ""),
		mapOf([]int{0, 1}, long),
		mapOf([]int{0, 1, 2}, "m", "m"),
		mapOf([]int{0, 1, 2}, "m", "c"),
		mapOf([]int{0, 1, 2, 3}, "m", "x", "c"),
		mapOf([]int{0, 1, 2, 3}, "x", "c", "m"),
		mapOf([]int{0, 1, 2}, "\x80", "\x7f"),
		mapOf([]int{0, 1, 2}, "ab", "a"),
		mapOf([]int{0, 1, 2}, "m", ""),
		mapOf([]int{0, -1}, "m"),
		mapOf([]int{4, 0}, "m"),
		mapOf([]int{0, farOff, -farOff - 1}, "c", "m"),
		mapOf([]int{-7}),
	}
}

func allMaps() []api.Map { return append(rightMaps(), wrongMaps()...) }

// keysAbout are keys at a map's cuts, close by them, and far from them.
func keysAbout(m api.Map) []string {
	l := []string{"", "\x00", "a", "b", "c", "g", "m", "n", "zz", "\x7f", "\x80", "\xff", strings.Repeat("\xff", 16), strings.Repeat("\xff", 40), strings.Repeat("long ", 1000)}
	for _, cut := range m.Cuts {
		l = append(l, cut, cut+"\x00", cut+"\xff", cut+cut)
		if last := len(cut) - 1; last >= 0 {
			l = append(l, cut[:last], cut[:last]+string([]byte{cut[last] + 1}), cut[:last]+string([]byte{cut[last] - 1}), cut[:last]+string([]byte{cut[last] - 1, 255}))
		}
	}
	return l
}

// above holds texts against one another byte by byte.
func above(a, b string) bool {
	for i := range min(len(a), len(b)) {
		if a[i] != b[i] {
			return a[i] > b[i]
		}
	}
	return len(a) > len(b)
}

// numbered is a shard and the number that it was told by.
type numbered struct {
	number int
	shard  span.Shard
}

// String tells it with its keys' bytes written out.
func (n numbered) String() string { return fmt.Sprintf("%d: %s", n.number, quoted(n.shard)) }

func quoted(s span.Shard) string {
	return fmt.Sprintf("(from %q on, below %q, at %d)", s.Lo, s.Hi, s.Node)
}

func shardsOf(m api.Map) []numbered {
	var l []numbered
	for i, s := range span.Shards(m) {
		l = append(l, numbered{i, s})
	}
	return l
}

// ownersOf are the owners of these keys.
func ownersOf(m api.Map, keys []string) []int {
	var l []int
	for _, key := range keys {
		l = append(l, span.Owner(m, key))
	}
	return l
}

// change is a call that answers a map.
type change struct {
	name string
	do   func(m api.Map) (api.Map, api.Errno)
}

func splitting(nodes, i int, key string) change {
	return change{fmt.Sprintf("Split(.., %d, %d, %q)", nodes, i, key), func(m api.Map) (api.Map, api.Errno) { return span.Split(m, nodes, i, key) }}
}

func merging(nodes, i int) change {
	return change{fmt.Sprintf("Merge(.., %d, %d)", nodes, i), func(m api.Map) (api.Map, api.Errno) { return span.Merge(m, nodes, i) }}
}

func moving(nodes, i, node int) change {
	return change{fmt.Sprintf("Move(.., %d, %d, %d)", nodes, i, node), func(m api.Map) (api.Map, api.Errno) { return span.Move(m, nodes, i, node) }}
}

func (c change) of(m api.Map) string { return c.name + " of " + told(m) }

// changes are calls of Split, Merge and Move over so many nodes, with numbers and keys that are in their bounds for some maps.
func changes(nodes int) []change {
	var l []change
	for _, i := range []int{-farOff - 1, -1, 0, 1, 2, 3, 6, 7, 8, 1 << 32, farOff} {
		for _, key := range []string{"", "a", "b", "m", "n", "\xff", strings.Repeat("\xfe", 16), strings.Repeat("n", 17)} {
			l = append(l, splitting(nodes, i, key))
		}
		l = append(l, merging(nodes, i))
		for _, node := range []int{-farOff - 1, -1, 0, 1, 2, 3, 4, 1 << 32, farOff} {
			l = append(l, moving(nodes, i, node))
		}
	}
	return l
}
