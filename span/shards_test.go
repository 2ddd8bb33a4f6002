package span_test

import (
	"slices"
	"strings"
	"testing"

	"confluence/api"
	"confluence/span"
)

func numberedFrom0(shards []span.Shard) []numbered {
	var l []numbered
	for i, s := range shards {
		l = append(l, numbered{i, s})
	}
	return l
}

func wantNoShard(t *testing.T, m api.Map, i int) {
	t.Helper()
	s, there := span.At(m, i)
	if there {
		t.Errorf("P8.1: At(%s, %d) is there: %s", told(m), i, quoted(s))
	}
	if s != (span.Shard{}) {
		t.Errorf("R5: At(%s, %d) is %s, %t", told(m), i, quoted(s), there)
	}
}

// wantShards holds what Shards and At tell of a map against these, in order.
func wantShards(t *testing.T, m api.Map, want ...span.Shard) {
	t.Helper()
	if got := shardsOf(m); !slices.Equal(got, numberedFrom0(want)) {
		t.Errorf("P8.1: Shards(%s) tells %v, not %v", told(m), got, numberedFrom0(want))
	}
	for i, s := range want {
		if got, there := span.At(m, i); got != s || !there {
			t.Errorf("P8.1: At(%s, %d) is %s, %t, not %s", told(m), i, quoted(got), there, quoted(s))
		}
	}
	for _, i := range []int{-farOff - 1, -1 << 32, -2, -1, len(want), len(want) + 1, 1 << 32, 1<<32 + 1, farOff} {
		wantNoShard(t, m, i)
	}
}

func TestShardsOfRightMaps(t *testing.T) {
	wantShards(t, mapOf([]int{0}), span.Shard{})
	wantShards(t, mapOf([]int{3}), span.Shard{Node: 3})
	wantShards(t, mapOf([]int{1, 1}, "m"), span.Shard{Hi: "m", Node: 1}, span.Shard{Lo: "m", Node: 1})
	wantShards(t, mapOf([]int{2, 0, 3}, "c", "m"), span.Shard{Hi: "c", Node: 2}, span.Shard{Lo: "c", Hi: "m"}, span.Shard{Lo: "m", Node: 3})
	wantShards(t, mapOf([]int{0, 1, 2, 3, 3, 2, 1, 0}, "b", "d", "f", "h", "j", "l", "n"),
		span.Shard{Hi: "b"}, span.Shard{Lo: "b", Hi: "d", Node: 1}, span.Shard{Lo: "d", Hi: "f", Node: 2}, span.Shard{Lo: "f", Hi: "h", Node: 3},
		span.Shard{Lo: "h", Hi: "j", Node: 3}, span.Shard{Lo: "j", Hi: "l", Node: 2}, span.Shard{Lo: "l", Hi: "n", Node: 1}, span.Shard{Lo: "n"})
}

// With one more Nodes than Cuts all is told as it stands.
func TestShardsOfWrongMaps(t *testing.T) {
	long := strings.Repeat("x", 40)
	wantShards(t, mapOf([]int{-7}), span.Shard{Node: -7})
	wantShards(t, mapOf([]int{farOff, -farOff - 1}, "m"), span.Shard{Hi: "m", Node: farOff}, span.Shard{Lo: "m", Node: -farOff - 1})
	wantShards(t, mapOf([]int{0, 1}, ""), span.Shard{}, span.Shard{Node: 1})
	wantShards(t, mapOf([]int{0, 1}, long), span.Shard{Hi: long}, span.Shard{Lo: long, Node: 1})
	wantShards(t, mapOf([]int{0, 1, 2}, "m", "c"), span.Shard{Hi: "m"}, span.Shard{Lo: "m", Hi: "c", Node: 1}, span.Shard{Lo: "c", Node: 2})
	wantShards(t, mapOf([]int{0, 1, 2}, "m", "m"), span.Shard{Hi: "m"}, span.Shard{Lo: "m", Hi: "m", Node: 1}, span.Shard{Lo: "m", Node: 2})
	for _, count := range []int{9, 25, 300} {
		m := mapOf(nodesInTurn(count), make([]string, count-1)...)
		var want []span.Shard
		for i := range count {
			if i > 0 {
				m.Cuts[i-1] = text(count - i)
				want[i-1].Hi = text(count - i)
				want = append(want, span.Shard{Lo: text(count - i), Node: i % 4})
			} else {
				want = append(want, span.Shard{})
			}
		}
		wantShards(t, m, want...)
	}
}

// text is unlike that of every other number below 65536.
func text(i int) string { return string([]byte{'t', byte(i >> 8), byte(i)}) }

func TestShardsOfMapsWithoutShards(t *testing.T) {
	for _, m := range []api.Map{
		{},
		{Cuts: []string{}, Nodes: []int{}},
		mapOf(nil, "m"),
		mapOf([]int{0}, "m"),
		mapOf([]int{0, 1}),
		mapOf([]int{0, 1}, "c", "m"),
		mapOf([]int{0, 1, 2}, "m"),
		mapOf([]int{0, 1, 2}),
		mapOf([]int{0, 1, 2}, "b", "c", "m"),
		mapOf([]int{0}, letters(7)...),
		mapOf(nodesInTurn(8), letters(6)...),
		mapOf(nodesInTurn(8), letters(8)...),
		mapOf(nodesInTurn(20), letters(2)...),
	} {
		wantShards(t, m)
		for i := range 25 {
			wantNoShard(t, m, i)
		}
		span.Shards(m)(func(i int, s span.Shard) bool {
			t.Errorf("P8.1: Shards(%s) tells shard %d, %s", told(m), i, quoted(s))
			return true
		})
	}
}

// What Shards tells is what At answers, of any map.
func TestShardsAgainstAt(t *testing.T) {
	for _, m := range allMaps() {
		var l []span.Shard
		for i := range len(m.Nodes) + len(m.Cuts) + 2 {
			if s, there := span.At(m, i); there {
				l = append(l, s)
			}
		}
		if got := shardsOf(m); !slices.Equal(got, numberedFrom0(l)) {
			t.Errorf("P8.1: Shards(%s) tells %v, but At %v", told(m), got, numberedFrom0(l))
		}
	}
}

func TestShardsLeftEarlyAndRangedAgain(t *testing.T) {
	for _, m := range allMaps() {
		shards, want := span.Shards(m), shardsOf(m)
		for left := 1; left <= len(want)+1; left++ {
			var got []numbered
			for i, s := range shards {
				got = append(got, numbered{i, s})
				if len(got) == left {
					break
				}
			}
			if !slices.Equal(got, want[:min(left, len(want))]) {
				t.Errorf("R7: left behind %d, Shards(%s) tells %v", left, told(m), got)
			}
		}
		for range 2 {
			var got []numbered
			for i, s := range shards {
				got = append(got, numbered{i, s})
			}
			if !slices.Equal(got, want) {
				t.Errorf("R7: ranged over again, Shards(%s) tells %v, not %v", told(m), got, want)
			}
		}
	}
}

// Behind the answer that it is to be left, nothing is told any more.
func TestShardsTellNothingWhenLeft(t *testing.T) {
	for _, m := range rightMaps() {
		for left := range m.Nodes {
			count := 0
			span.Shards(m)(func(int, span.Shard) bool {
				count++
				return count <= left
			})
			if count != left+1 {
				t.Errorf("R7: left behind %d, Shards(%s) tells %d", left+1, told(m), count)
			}
		}
	}
}

func TestShardsWithinShards(t *testing.T) {
	for _, m := range rightMaps() {
		shards, want := span.Shards(m), shardsOf(m)
		var got []numbered
		for i, s := range shards {
			got = append(got, numbered{i, s})
			var inner []numbered
			for j, o := range shards {
				inner = append(inner, numbered{j, o})
			}
			if !slices.Equal(inner, want) {
				t.Errorf("R7: ranged over in the midst of itself, Shards(%s) tells %v", told(m), inner)
			}
		}
		if !slices.Equal(got, want) {
			t.Errorf("R7: Shards(%s) tells %v, not %v", told(m), got, want)
		}
	}
}

func TestWhole(t *testing.T) {
	for _, node := range []int{0, 1, 2, 3, 4, 5, 100, -1, -7, 1 << 32, farOff, -farOff - 1} {
		m := span.Whole(node)
		wantMap(t, "P8.1", "Whole", m, api.OK, mapOf([]int{node}))
		for nodes := 1; nodes <= 4; nodes++ {
			if node >= 0 && node < nodes {
				wantError(t, "P8.4", "Check of "+told(m), span.Check(m, nodes), api.OK)
			}
		}
		wantShards(t, m, span.Shard{Node: node})
	}
}

func TestCopy(t *testing.T) {
	for _, m := range append(allMaps(), mapOf(nodesInTurn(300), letters(7)...), mapOf(nil, make([]string, 300)...)) {
		wantMap(t, "P8.1", "Copy of "+told(m), span.Copy(m), api.OK, m)
	}
}
