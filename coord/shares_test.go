package coord_test

import (
	"fmt"
	"slices"
	"strings"
	"testing"

	"confluence/api"
	"confluence/coord"
)

// wantShares wants the shares of some writes by a map, also when they are asked for again.
func wantShares(t *testing.T, m api.Map, writes []api.Ver, want ...coord.Share) {
	t.Helper()
	for range 2 {
		if got := coord.Shares(m, writes); !slices.EqualFunc(got, want, isSame) {
			t.Errorf("P17.1: Shares({cuts %.20q, nodes %v}, %s) are %s, not %s", m.Cuts, m.Nodes, quoted(writes), told(got), told(want))
		}
	}
}

// eightShards is a map of as many shards as there may be, of which some are of one node.
func eightShards() api.Map {
	return mapOf([]int{2, 0, 3, 3, 1, 0, 2, 2}, "\x00", "b", "d", "d\x00", "m", "\x80", "\xff")
}

// Whatever the map, nothing has no shares.
func TestSharesOfNoWrites(t *testing.T) {
	for _, m := range append(wrongMaps(), mapOf([]int{0}), mapOf([]int{3, 1}, "m"), eightShards()) {
		wantShares(t, m, nil)
		wantShares(t, m, []api.Ver{})
		wantShares(t, m, make([]api.Ver, 0, 5))
	}
}

func TestSharesOfOneWrite(t *testing.T) {
	for _, v := range strangeVersions() {
		for node := range 4 {
			wantShares(t, mapOf([]int{node}), []api.Ver{v}, share(node, v))
		}
	}
	for _, c := range []struct {
		key  string
		node int
	}{{"", 2}, {"\x00", 0}, {"\x00\x00", 0}, {"a", 0}, {"azz", 0}, {"b", 3}, {"c\xff", 3}, {"d", 3}, {"d\x00", 1}, {"d\x00\x00", 1}, {"lz", 1}, {"m", 0}, {"\x7f\xff", 0}, {"\x80", 2}, {"\xfe", 2}, {"\xff", 2}, {"\xff\xff", 2}, {strings.Repeat("\xff", 5000), 2}} {
		wantShares(t, eightShards(), keyed(c.key), share(c.node, version(c.key, "v0")))
	}
}

// With one shard its node has all the writes, in their order, be there several of one key or not.
func TestSharesOfOneShard(t *testing.T) {
	for node := range 4 {
		for _, l := range [][]api.Ver{strangeVersions(), keyed("b", "a", "c"), keyed("a", "a", "a"), keyed("z", "a", "z", "", "a"), keyed(strange()...)} {
			wantShares(t, mapOf([]int{node}), l, share(node, l...))
		}
	}
}

// Nodes rise, in whatever order the writes and the shards stand; of one node the writes stay in their order.
func TestSharesRise(t *testing.T) {
	l := keyed("z", "c", "b", "p", "a", "c", "n", "z", "b")
	wantShares(t, mapOf([]int{3, 2, 1, 0}, "b", "c", "n"), l, share(0, l[0], l[3], l[6], l[7]), share(1, l[1], l[5]), share(2, l[2], l[8]), share(3, l[4]))
	wantShares(t, mapOf([]int{0, 1, 2, 3}, "b", "c", "n"), l, share(0, l[4]), share(1, l[2], l[8]), share(2, l[1], l[5]), share(3, l[0], l[3], l[6], l[7]))
	wantShares(t, mapOf([]int{1, 0, 1, 0}, "b", "c", "n"), l, share(0, l[0], l[2], l[3], l[6], l[7], l[8]), share(1, l[1], l[4], l[5]))
	wantShares(t, mapOf([]int{3, 3, 3, 2}, "b", "c", "n"), l, share(2, l[0], l[3], l[6], l[7]), share(3, l[1], l[2], l[4], l[5], l[8]))
	orders(keyed("a", "b", "c", "n", "z"), func(l []api.Ver) {
		var low, high []api.Ver
		for _, v := range l {
			if v.Key == "a" || v.Key == "n" || v.Key == "z" {
				low = append(low, v)
			} else {
				high = append(high, v)
			}
		}
		wantShares(t, mapOf([]int{1, 3, 1}, "b", "n"), l, share(1, low...), share(3, high...))
	})
}

// Several writes of one key stay in their order too, among others of their node and of other ones.
func TestSharesOfSeveralWritesOfAKey(t *testing.T) {
	l := keyed("n", "a", "n", "b", "a", "n", "a")
	l[2].Gone, l[4].TS = true, 8
	wantShares(t, mapOf([]int{2, 1}, "m"), l, share(1, l[0], l[2], l[5]), share(2, l[1], l[3], l[4], l[6]))
	same := slices.Repeat(keyed("n"), 5)
	wantShares(t, mapOf([]int{2, 1}, "m"), same, share(1, same...))
	wantShares(t, mapOf([]int{1, 2, 1}, "n", "n\x00"), append(same, version("o", "x")), share(1, version("o", "x")), share(2, same...))
}

// Nodes that have no write have no share: the first, the last and those in the midst.
func TestSharesOfNodesWithoutWrites(t *testing.T) {
	m := mapOf([]int{0, 1, 2, 3}, "d", "h", "p")
	at := keyed("a", "d", "h", "p")
	for chosen := range 16 {
		var writes []api.Ver
		var want []coord.Share
		for node := range 4 {
			if chosen>>node&1 == 1 {
				writes = append([]api.Ver{at[node]}, writes...)
				want = append(want, share(node, at[node]))
			}
		}
		wantShares(t, m, writes, want...)
	}
}

// A key that is a cut is above it; the one just below it, and that much more, are on either side.
func TestSharesAtCuts(t *testing.T) {
	for _, c := range []struct{ below, cut, behind string }{{"", "\x00", "\x00\x00"}, {"a", "a\x00", "a\x00\x00"}, {"a\xff\xff", "b", "b\x00"}, {"lzz", "m", "ma"}, {"\x7f\xff", "\x80", "\x80\x00"}, {"\xff", "\xff\x00", "\xff\x01"}, {strings.Repeat("\xff", 15), strings.Repeat("\xff", 16), strings.Repeat("\xff", 17)}} {
		l := keyed(c.below, c.cut, c.behind)
		wantShares(t, mapOf([]int{0, 1}, c.cut), l, share(0, l[0]), share(1, l[1], l[2]))
		wantShares(t, mapOf([]int{1, 0}, c.cut), l, share(0, l[1], l[2]), share(1, l[0]))
		wantShares(t, mapOf([]int{3, 2, 0}, c.cut, c.behind), l, share(0, l[2]), share(2, l[1]), share(3, l[0]))
	}
}

// wrongMaps aren't right, each in its way.
func wrongMaps() []api.Map {
	return []api.Map{
		{},
		mapOf(nil, "m"),
		mapOf([]int{}, "c", "m"),
		mapOf([]int{0}, "m"),
		mapOf([]int{1, 2}, "c", "m"),
		mapOf([]int{1, 2, 0}, "m"),
		mapOf([]int{1, 2}),
		mapOf([]int{-1}),
		mapOf([]int{4}),
		mapOf([]int{lowest, 1, highest}, "c", "m"),
		mapOf([]int{0, -1, 3, 4}, "c", "m", "x"),
		mapOf([]int{0, 1, 2}, "m", "c"),
		mapOf([]int{0, 1, 2}, "m", "m"),
		mapOf([]int{3, 2, 1, 0}, "x", "m", "c"),
		mapOf([]int{1, 2}, ""),
		mapOf([]int{1, 2}, strings.Repeat("n", 17)),
		mapOf([]int{0, 1, 2, 3, 0, 1, 2, 3, 0, 1}, "b", "c", "d", "e", "f", "g", "h", "i", "j"),
	}
}

// By a map that isn't right the writes go where Owner says; where that is no node from 0 to 3, they go nowhere.
func TestSharesOfWrongMaps(t *testing.T) {
	a, d, n, z := version("a", "1"), version("d", "2"), version("n", "3"), version("z", "4")
	l := []api.Ver{z, n, d, a}
	for i, want := range [][]coord.Share{
		{},
		{},
		{},
		{share(0, d, a)},
		{share(1, a), share(2, d)},
		{share(1, d, a), share(2, z, n)},
		{share(1, z, n, d, a)},
		{},
		{},
		{share(1, d)},
		{share(0, a), share(3, n)},
		{share(0, a), share(1, d), share(2, z, n)},
		{share(0, d, a), share(2, z, n)},
		{share(0, z), share(1, n), share(2, d), share(3, a)},
		{share(2, z, n, d, a)},
		{share(1, n, d, a), share(2, z)},
		{share(0, a), share(1, z, n), share(3, d)},
	} {
		wantShares(t, wrongMaps()[i], l, want...)
	}
	for _, node := range places() {
		m := mapOf([]int{node, 2}, "m")
		switch {
		case node < 0 || node > 3:
			wantShares(t, m, l, share(2, z, n))
		case node < 2:
			wantShares(t, m, l, share(node, d, a), share(2, z, n))
		case node == 2:
			wantShares(t, m, l, share(2, l...))
		default:
			wantShares(t, m, l, share(2, z, n), share(3, d, a))
		}
	}
}

// plainShares are the shares as they are gathered write by write.
func plainShares(m api.Map, writes []api.Ver) []coord.Share {
	var all [4]coord.Share
	for _, v := range writes {
		shard := 0
		for _, cut := range m.Cuts {
			if strings.Compare(cut, v.Key) < 1 {
				shard++
			}
		}
		if shard < len(m.Nodes) && m.Nodes[shard] >= 0 && m.Nodes[shard] < 4 {
			all[m.Nodes[shard]].Vers = append(all[m.Nodes[shard]].Vers, v)
		}
	}
	var l []coord.Share
	for node, s := range all {
		if len(s.Vers) > 0 {
			l = append(l, share(node, s.Vers...))
		}
	}
	return l
}

// anyMap is a map of any kind, right or not.
func anyMap(n *numbers) api.Map {
	var m api.Map
	for range n.below(9) {
		m.Cuts = append(m.Cuts, one(n, strange()))
	}
	if n.below(3) > 0 {
		slices.Sort(m.Cuts)
	}
	for range max(0, len(m.Cuts)+1+n.below(2)-n.below(2)) {
		node := n.below(4)
		if n.below(6) == 0 {
			node = one(n, places())
		}
		m.Nodes = append(m.Nodes, node)
	}
	return m
}

// anyWrites are writes of any keys, each of which tells its place.
func anyWrites(n *numbers, most int) []api.Ver {
	var l []api.Ver
	for i := range n.below(most + 1) {
		v := version(one(n, strange()), fmt.Sprint("v", i))
		if v.Gone = n.below(5) == 0; v.Gone {
			v.Val = ""
		}
		v.Tx = i
		l = append(l, v)
	}
	return l
}

func TestSharesOfAnyMaps(t *testing.T) {
	n, sizes := numbers(31), map[int]int{}
	for range 30000 {
		m, writes := anyMap(&n), anyWrites(&n, 12)
		want := plainShares(m, writes)
		wantShares(t, m, writes, want...)
		sizes[len(want)]++
		if t.Failed() {
			return
		}
	}
	for count := range 5 {
		if sizes[count] < 500 {
			t.Errorf("P17.1: of any maps and writes there are few with %d shares: %v", count, sizes)
		}
	}
}

// As many writes as a message may have, and more.
func TestSharesOfManyWrites(t *testing.T) {
	n := numbers(32)
	for _, m := range []api.Map{mapOf([]int{1}), eightShards()} {
		writes := anyWrites(&n, 0)
		for len(writes) <= 3*api.MostVers {
			writes = append(writes, anyWrites(&n, 40)...)
		}
		wantShares(t, m, writes, plainShares(m, writes)...)
	}
}
