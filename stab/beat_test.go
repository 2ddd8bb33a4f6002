package stab_test

import (
	"testing"

	"confluence/api"
)

// Beats of a node below, at and above its beat.
func TestBeatOfOneNode(t *testing.T) {
	s := made(t, 1, 1, who(1))
	s.wantLocal(0)
	for _, c := range []struct{ to, want uint64 }{{0, 0}, {5, 5}, {4, 5}, {5, 5}, {0, 5}, {6, 6}, {1 << 63, 1 << 63}, {1<<63 - 1, 1 << 63}, {latest - 1, latest - 1}, {latest, latest}, {0, latest}} {
		s.behind(beat(0, c.to))
		s.want(known{c.want, c.want, c.want, who(1)})
	}
}

// Local is the least beat, whichever node's it is; all others are at the latest time.
func TestLocalIsTheLeastBeat(t *testing.T) {
	for nodes := 1; nodes <= 4; nodes++ {
		for least := range nodes {
			for _, time := range moments()[1:] {
				s := made(t, 0, nodes, who(0), beat(least, time), beat(least, time-1))
				for node := range nodes {
					if node != least {
						s.wantLocal(0)
						s.behind(beat(node, latest))
					}
				}
				s.want(known{time, time, time, who(0)})
			}
		}
	}
}

// While one node has said nothing, whichever it is, Local stays nought.
func TestLocalWhileOneNodeIsSilent(t *testing.T) {
	for nodes := 2; nodes <= 4; nodes++ {
		for silent := range nodes {
			s := made(t, 3, nodes, who(3))
			for range 2 {
				for node := range nodes {
					if node != silent {
						s.behind(beat(node, 8), beat(node, 9))
					}
				}
				s.want(known{has: who(3)})
				s.behind(beat(silent, 0))
			}
			s.want(known{has: who(3)})
			s.behind(beat(silent, 3))
			s.want(known{3, 3, 3, who(3)})
			s.behind(beat(silent, 12))
			s.want(known{9, 9, 9, who(3)})
		}
	}
}

// Each node's beat is its own: one that goes on raises no other one's.
func TestBeatsOfNodesAreApart(t *testing.T) {
	s := made(t, 0, 4, who(0), beat(0, 4), beat(1, 3), beat(2, 2), beat(3, 1))
	s.wantLocal(1)
	for _, c := range []struct {
		node     int
		to, want uint64
	}{{3, 9, 2}, {2, 9, 3}, {1, 9, 4}, {0, 9, 9}, {0, 10, 9}, {1, 10, 9}, {2, 10, 9}, {3, 10, 10}} {
		s.behind(beat(c.node, c.to))
		s.wantLocal(c.want)
	}
}

// Beats count whether the own datacenter is a member or not, and stay when it comes and goes.
func TestBeatsOfWhoIsNoMember(t *testing.T) {
	s := made(t, 2, 2, who(0, 1), beat(0, 7), beat(1, 6))
	s.want(known{6, 0, 0, who(0, 1)})
	s.behind(join(2, 1))
	s.wantLocal(6)
	s.behind(beat(1, 9), leave(2, 2))
	s.wantLocal(7)
	s.behind(leave(0, 3), leave(1, 4))
	s.wantLocal(7)
	s.behind(join(0, 5), join(2, 6), beat(0, 8))
	s.wantLocal(8)
}

func TestBeatOfNoNode(t *testing.T) {
	for nodes := 1; nodes <= 4; nodes++ {
		s := made(t, 0, nodes, who(0, 1))
		for node := range nodes {
			s.behind(beat(node, 5))
		}
		s.behind(got(1, 5), told(1, 0, 5))
		s.want(known{5, 5, 5, who(0, 1)})
		for _, time := range moments() {
			for _, node := range []int{nodes, nodes + 1, 4, 5, 64, 256, 1 << 32, highest, -1, -2, -nodes, lowest} {
				s.wantUnchanged(api.OK, beat(node, time))
			}
		}
	}
}
