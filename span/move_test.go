package span_test

import (
	"testing"

	"confluence/api"
)

// movedTo is a map with one node changed, in memory of the test's.
func movedTo(m api.Map, i, node int) api.Map {
	c := own(m)
	c.Nodes[i] = node
	return c
}

func TestMoveOfEachShardToEachNode(t *testing.T) {
	for _, m := range rightMaps() {
		for i := range m.Nodes {
			for node := range 4 {
				c := moving(4, i, node)
				got, e := c.do(m)
				if node == m.Nodes[i] {
					wantRefused(t, "P8.1", c.of(m), got, e, api.ErrThere)
				} else {
					wantMap(t, "P8.1", c.of(m), got, e, movedTo(m, i, node))
				}
			}
		}
	}
}

func TestMoveWithinTheNodes(t *testing.T) {
	for nodes := 1; nodes <= 4; nodes++ {
		for shards := 1; shards <= 8; shards++ {
			for i := range shards {
				m := mapOf(make([]int, shards), letters(shards-1)...)
				for _, node := range []int{-farOff - 1, -1 << 32, -nodes, -1, nodes, nodes + 1, 4, 5, 1 << 32, farOff} {
					c := moving(nodes, i, node)
					got, e := c.do(m)
					wantRefused(t, "P8.1", c.of(m), got, e, api.ErrArg)
				}
				for node := 1; node < nodes; node++ {
					c := moving(nodes, i, node)
					got, e := c.do(m)
					wantMap(t, "P8.1", c.of(m), got, e, movedTo(m, i, node))
				}
				c := moving(nodes, i, 0)
				got, e := c.do(m)
				wantRefused(t, "P8.1", c.of(m), got, e, api.ErrThere)
			}
		}
	}
}

// To nodes that are right, or none, or where other shards are.
func TestMoveOfNoShard(t *testing.T) {
	for shards := 1; shards <= 8; shards++ {
		m := lettered(shards)
		for _, i := range outside(shards) {
			if i >= 0 && i < shards {
				continue
			}
			for _, node := range []int{0, 1, 3, 4, -1, farOff, -farOff - 1} {
				c := moving(4, i, node)
				got, e := c.do(m)
				wantRefused(t, "P8.1", c.of(m), got, e, api.ErrNone)
			}
		}
	}
}
