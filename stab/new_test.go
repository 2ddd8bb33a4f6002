package stab_test

import (
	"testing"

	"confluence/api"
	"confluence/stab"
)

func TestExamples(t *testing.T) {
	s := made(t, 0, 1, who(0, 1), beat(0, 9))
	s.wantApplied(0)
	s.behind(got(1, 5))
	s.want(known{9, 5, 0, who(0, 1)})
	s.behind(told(1, 0, 7))
	s.want(known{9, 5, 5, who(0, 1)})
	s.behind(join(2, 1))
	s.want(known{9, 0, 5, who(0, 1, 2)})
	s.behind(told(1, 0, 9))
	s.want(known{9, 0, 5, who(0, 1, 2)})
	s.behind(got(2, 9), told(2, 1, 9))
	s.want(known{9, 5, 5, who(0, 1, 2)})
	s.behind(got(1, 8))
	s.want(known{9, 8, 5, who(0, 1, 2)})
	s.behind(told(1, 1, 9))
	s.want(known{9, 8, 8, who(0, 1, 2)})
}

// A new table of each datacenter, with each number of nodes and with whatever members, knows of nothing yet.
func TestNewTable(t *testing.T) {
	for dc := range 4 {
		for nodes := 1; nodes <= 4; nodes++ {
			for _, has := range allMembers() {
				made(t, dc, nodes, has).want(known{has: has})
			}
		}
	}
}

// As many nodes as were asked for, and no more, have a beat.
func TestNewTableHasSoManyNodes(t *testing.T) {
	for nodes := 1; nodes <= 4; nodes++ {
		s := made(t, 2, nodes, who(2))
		for node := nodes; node < 6; node++ {
			s.wantUnchanged(api.OK, beat(node, 7))
		}
		for node := range nodes {
			s.wantLocal(0)
			s.behind(beat(node, 7))
		}
		s.want(known{7, 7, 7, who(2)})
	}
}

// Of a new table both epochs are nought.
func TestNewTableIsOfNoEpoch(t *testing.T) {
	for _, epoch := range epochs() {
		joined := made(t, 0, 1, who(0, 1), beat(0, 9), got(1, 9))
		left := made(t, 0, 1, who(0, 1), beat(0, 9), got(1, 9))
		heard := made(t, 0, 1, who(0, 1), beat(0, 9), got(1, 9), told(1, epoch, 9))
		if epoch <= 0 {
			joined.wantUnchanged(api.ErrOld, join(2, epoch))
			left.wantUnchanged(api.ErrOld, leave(1, epoch))
		} else {
			joined.behind(join(2, epoch))
			left.behind(leave(1, epoch))
		}
		if epoch < 0 {
			heard.wantStable(0)
		} else {
			heard.wantStable(9)
		}
	}
}

func wantNoTable(t *testing.T, dc, nodes int, has members) {
	t.Helper()
	b, e := stab.New(dc, nodes, has)
	if e != api.ErrArg {
		t.Errorf("P12.1: New(%d, %d, %v) has error %d, not %d", dc, nodes, has, e, api.ErrArg)
	}
	if b != nil {
		t.Errorf("R5: New(%d, %d, %v) is a table beside error %d", dc, nodes, has, e)
	}
}

func TestNewOfNoDatacenterOrWithWrongNodes(t *testing.T) {
	wrongNodes := []int{0, -1, -2, -4, lowest, lowest + 1, 5, 6, 8, 1 << 32, 1<<32 + 1, highest}
	for _, has := range allMembers() {
		for _, dc := range noDCs() {
			for nodes := 1; nodes <= 4; nodes++ {
				wantNoTable(t, dc, nodes, has)
			}
			for _, nodes := range wrongNodes {
				wantNoTable(t, dc, nodes, has)
			}
		}
		for dc := range 4 {
			for _, nodes := range wrongNodes {
				wantNoTable(t, dc, nodes, has)
			}
		}
	}
}
