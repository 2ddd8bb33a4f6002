package span_test

import (
	"testing"

	"confluence/api"
	"confluence/span"
)

// withoutCut is a map without one of its cuts and the node behind it, in memory of the test's.
func withoutCut(m api.Map, i int) api.Map {
	var c api.Map
	for k := range m.Cuts {
		if k != i {
			c.Cuts = append(c.Cuts, m.Cuts[k])
		}
	}
	for k := range m.Nodes {
		if k != i+1 {
			c.Nodes = append(c.Nodes, m.Nodes[k])
		}
	}
	return c
}

// likePair is a map of so many shards of which the one of a number and the next one are at one node, and no others beside one another are.
func likePair(shards, i, node int) api.Map {
	m := lettered(shards)
	for k := range m.Nodes {
		m.Nodes[k] = (node + 1 + k%2) % 4
	}
	m.Nodes[i], m.Nodes[i+1] = node, node
	return m
}

func TestMergeOfLikeNodes(t *testing.T) {
	for shards := 2; shards <= 8; shards++ {
		for i := range shards - 1 {
			for node := range 4 {
				m := likePair(shards, i, node)
				for other := range shards - 1 {
					c := merging(4, other)
					got, e := c.do(m)
					if other == i {
						wantMap(t, "P8.1", c.of(m), got, e, withoutCut(m, i))
					} else {
						wantRefused(t, "P8.1", c.of(m), got, e, api.ErrAway)
					}
				}
			}
			m := mapOf(make([]int, shards), letters(shards-1)...)
			c := merging(1, i)
			got, e := c.do(m)
			wantMap(t, "P8.1", c.of(m), got, e, withoutCut(m, i))
		}
	}
}

func TestMergeOfUnlikeNodes(t *testing.T) {
	for shards := 2; shards <= 8; shards++ {
		for i := range shards - 1 {
			for a := range 4 {
				for b := range 4 {
					m := mapOf(make([]int, shards), letters(shards-1)...)
					m.Nodes[i], m.Nodes[i+1] = a, b
					c := merging(4, i)
					got, e := c.do(m)
					if a == b {
						wantMap(t, "P8.1", c.of(m), got, e, withoutCut(m, i))
					} else {
						wantRefused(t, "P8.1", c.of(m), got, e, api.ErrAway)
					}
				}
			}
		}
	}
}

// One of the two is there at -1 and at the last one, but not both.
func TestMergeOfNoShards(t *testing.T) {
	for shards := 1; shards <= 8; shards++ {
		for _, m := range []api.Map{lettered(shards), mapOf(make([]int, shards), letters(shards-1)...)} {
			for _, i := range append(outside(shards), shards-1) {
				if i >= 0 && i < shards-1 {
					continue
				}
				c := merging(4, i)
				got, e := c.do(m)
				wantRefused(t, "P8.1", c.of(m), got, e, api.ErrNone)
			}
		}
	}
}

func TestMergeDownToOneShard(t *testing.T) {
	for name, next := range map[string]func(shards int) int{
		"the first":  func(int) int { return 0 },
		"the last":   func(shards int) int { return shards - 2 },
		"in the mid": func(shards int) int { return (shards - 1) / 2 },
	} {
		m := mapOf([]int{3, 3, 3, 3, 3, 3, 3, 3}, letters(7)...)
		for shards := 8; shards > 1; shards-- {
			got, e := span.Merge(m, 4, next(shards))
			wantMap(t, "P8.1", "Merge of "+name+" of "+told(m), got, e, withoutCut(m, next(shards)))
			wantError(t, "P8.4", "Check of "+told(got), span.Check(got, 4), api.OK)
			m = got
		}
		wantMap(t, "P8.1", "what is left", m, api.OK, span.Whole(3))
	}
}
