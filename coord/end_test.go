package coord_test

import (
	"slices"
	"testing"

	"confluence/api"
)

// What isn't in doesn't end: neither what never was, nor what has gone, nor another one than what is.
func TestEndOfWhatIsNotIn(t *testing.T) {
	for i, tx := range txs() {
		other := txs()[(i+1)%len(txs())]
		s := started(t, other, 5, at(0, 1)...)
		refused := func(l ...uint64) {
			t.Helper()
			for _, tx := range l {
				for _, node := range places() {
					s.refuses(api.ErrNone, end(tx, node))
				}
			}
		}
		refused(tx)
		s.votes(other, 6, 0, 1)
		refused(tx)
		s.ends(other, 0, 1)
		refused(tx, other)
	}
}

// A node that has no share doesn't end, be the transaction decided or not, whatever other transactions have there.
func TestEndOfANodeWithoutAShare(t *testing.T) {
	for _, node := range places() {
		s := started(t, 4, 5, at(node)...)
		s.starts(start(5, 5, at(places()...)...))
		s.votes(5, 6, places()...)
		wantAway := func() {
			t.Helper()
			for _, other := range places() {
				if other != node {
					s.refuses(api.ErrAway, end(4, other))
				}
			}
		}
		wantAway()
		s.refuses(api.ErrWait, end(4, node))
		s.decides(6, vote(4, node, 6))
		wantAway()
		s.goes(end(4, node))
	}
}

// Ahead of all votes, and behind some of them, none ends: neither a node that has voted nor another one.
func TestEndAheadOfTheLastVote(t *testing.T) {
	orders([]int{0, 1, 2, 3}, func(nodes []int) {
		s := started(t, 4, 5, at(0, 1, 2, 3)...)
		s.starts(start(5, 5, at(0, 1, 2, 3)...))
		s.votes(5, 7, 0, 1, 2, 3)
		for i, node := range nodes {
			s.refuses(api.ErrWait, end(4, 0), end(4, 1), end(4, 2), end(4, 3))
			s.refuses(api.ErrOld, vote(4, node, 5))
			s.refuses(api.ErrWait, end(4, node))
			if i < 3 {
				s.takes(vote(4, node, uint64(9-i)))
			} else {
				s.decides(9, vote(4, node, uint64(9-i)))
			}
		}
		s.ends(4, nodes...)
	})
}

// A node ends once, as long as the transaction is in; in whatever order they end, the last one makes it go.
func TestEndOfEachNode(t *testing.T) {
	for count := 1; count <= 4; count++ {
		all := []int{0, 1, 2, 3}[:count]
		orders(all, func(nodes []int) {
			s := started(t, 4, 5, at(all...)...)
			s.votes(4, 6, all...)
			for i, node := range nodes {
				for _, ended := range nodes[:i] {
					s.refuses(api.ErrThere, end(4, ended))
				}
				s.tells(4, at(all...)...)
				s.touches(true, "k0", "k1")
				if i < count-1 {
					s.takes(end(4, node))
				} else {
					s.goes(end(4, node))
				}
			}
			for _, node := range nodes {
				s.refuses(api.ErrNone, end(4, node))
			}
			s.touches(false, "", "")
		})
	}
}

// The last one makes its transaction go, and no other one, whatever those have at the same nodes.
func TestEndOfTheLast(t *testing.T) {
	l := []uint64{3, 4, 5, latest}
	orders(l, func(gone []uint64) {
		s := made(t)
		for _, tx := range l {
			s.starts(start(tx, 3, at(0, 2)...))
			s.votes(tx, 4, 2, 0)
			s.takes(end(tx, 2))
		}
		for i, tx := range gone {
			s.goes(end(tx, 0))
			s.refuses(api.ErrNone, end(tx, 0), end(tx, 2), vote(tx, 0, latest))
			for _, other := range gone[i+1:] {
				s.tells(other, at(0, 2)...)
				s.refuses(api.ErrThere, end(other, 2))
			}
		}
	})
}

// Many nodes, in their order and the other way round.
func TestEndOfMany(t *testing.T) {
	var nodes []int
	for node := range 300 {
		nodes = append(nodes, 7*node-1000)
	}
	for range 2 {
		s := started(t, 4, 5, at(nodes...)...)
		s.votes(4, 6, nodes...)
		slices.Reverse(nodes)
		s.ends(4, nodes...)
	}
}

// Where several errors apply: ErrNone, then ErrAway, then ErrWait or ErrThere, which never apply at once.
func TestEndOfSeveralErrors(t *testing.T) {
	s := started(t, 4, 50, at(0, 1)...)
	wantFirst := func(e api.Errno) {
		t.Helper()
		for range 2 {
			s.refuses(api.ErrNone, end(5, 2), end(5, 0), end(5, -1))
			s.refuses(api.ErrAway, end(4, 2), end(4, -1), end(4, highest), end(4, lowest))
			s.refuses(e, end(4, 0))
		}
	}
	wantFirst(api.ErrWait)
	s.takes(vote(4, 0, 60))
	wantFirst(api.ErrWait)
	s.decides(60, vote(4, 1, 51))
	s.takes(end(4, 0))
	wantFirst(api.ErrThere)
	s.goes(end(4, 1))
	s.refuses(api.ErrNone, end(4, 2), end(4, -1), end(4, 0), end(4, 1))
}
