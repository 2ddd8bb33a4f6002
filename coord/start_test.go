package coord_test

import (
	"slices"
	"testing"

	"confluence/api"
	"confluence/coord"
)

// Without shares nothing is started, whatever else is wrong: neither anew, nor while it is in, nor when it has gone.
func TestStartWithoutShares(t *testing.T) {
	for _, tx := range txs() {
		for _, low := range moments() {
			empty := start(tx, low)
			empty.shares = []coord.Share{}
			s := made(t)
			s.refuses(api.ErrArg, start(tx, low), empty)
			s.starts(start(tx, 0, at(1)...))
			s.refuses(api.ErrArg, start(tx, low), empty)
			s.votes(tx, 1, 1)
			s.refuses(api.ErrArg, start(tx, low), empty)
			s.ends(tx, 1)
			s.refuses(api.ErrArg, start(tx, low), empty)
		}
	}
}

// What is in isn't started again, be it decided or not, at whatever node it has ended; and it goes on as it was.
func TestStartOfWhatIsIn(t *testing.T) {
	for _, tx := range txs() {
		again := []call{start(tx, 0, at(0, 2)...), start(tx, latest, at(0, 2)...), start(tx, 9, at(3)...), start(tx, 0, share(1)), start(tx, 2, at(2, 0, 1, 3)...)}
		s := started(t, tx, 5, at(0, 2)...)
		s.refuses(api.ErrThere, again...)
		s.takes(vote(tx, 2, 8))
		s.refuses(api.ErrThere, again...)
		s.refuses(api.ErrOld, vote(tx, 0, 5))
		s.refuses(api.ErrAway, vote(tx, 3, 9), vote(tx, 1, 9))
		s.decides(8, vote(tx, 0, 6))
		s.refuses(api.ErrThere, again...)
		s.takes(end(tx, 0))
		s.refuses(api.ErrThere, again...)
		s.tells(tx, at(0, 2)...)
		s.goes(end(tx, 2))
	}
}

// What has gone is started anew: with other shares and another low, and nobody has voted for it or ended.
func TestStartOfWhatHasGone(t *testing.T) {
	for _, tx := range txs() {
		s := started(t, tx, 50, at(0, 2)...)
		s.votes(tx, 99, 0, 2)
		s.ends(tx, 0, 2)
		s.starts(start(tx, 3, at(2, 1)...))
		s.refuses(api.ErrThere, start(tx, 3, at(2, 1)...))
		s.refuses(api.ErrAway, vote(tx, 0, 60), end(tx, 0))
		s.refuses(api.ErrWait, end(tx, 2), end(tx, 1))
		s.refuses(api.ErrOld, vote(tx, 2, 3))
		s.takes(vote(tx, 2, 4))
		s.refuses(api.ErrWait, end(tx, 2))
		s.decides(5, vote(tx, 1, 5))
		s.ends(tx, 1, 2)
		s.starts(start(tx, 0, at(0, 2)...))
		s.votes(tx, 1, 2, 0)
		s.ends(tx, 2, 0)
	}
}

// Two shares of one node, wherever they stand among the others, are refused; what the versions are says nothing.
func TestStartOfTwoSharesOfANode(t *testing.T) {
	for _, nodes := range [][]int{{0, 0}, {3, 3}, {0, 1, 0}, {0, 0, 1}, {1, 0, 0}, {0, 1, 2, 0}, {0, 1, 1, 2}, {2, 0, 1, 1}, {2, 2, 0, 1}, {0, 1, 0, 1}, {1, 1, 1}, {0, 1, 2, 3, 3}, {0, 1, 2, 3, 0}, {-1, -1}, {4, 0, 4}, {highest, 1, highest}, {lowest, lowest, 2}} {
		for _, low := range moments() {
			s := made(t)
			s.refuses(api.ErrForm, start(7, low, at(nodes...)...))
			bare := at(nodes...)
			for i := range bare {
				bare[i].Vers = nil
			}
			s.refuses(api.ErrForm, start(7, low, bare...))
			bare[0].Vers = strangeVersions()
			s.refuses(api.ErrForm, start(7, low, bare...))
			s.touches(false, "", "")
			apart := slices.Sorted(slices.Values(nodes))
			s.starts(start(7, low, at(slices.Compact(apart)...)...))
		}
	}
	row := []int{lowest}
	for i := range 300 {
		row = append(row, 3*i-400)
	}
	for i := range row {
		made(t).refuses(api.ErrForm, start(1, 0, at(append(slices.Clone(row), row[i])...)...))
		made(t).refuses(api.ErrForm, start(1, 0, at(append([]int{row[i]}, row...)...)...))
	}
	started(t, 1, 0, at(row...)...)
}

// Shares without versions are shares: their nodes vote and end.
func TestStartWithoutVersions(t *testing.T) {
	s := started(t, 1, 0, share(0))
	s.refuses(api.ErrThere, start(1, 0, share(0)), start(1, 0, at(1)...))
	s.starts(start(2, 0, share(2), share(0, []api.Ver{}...), share(3)))
	s.starts(start(3, 0, append(at(1), share(2))...))
	s.refuses(api.ErrWait, end(1, 0), end(2, 0), end(2, 2), end(2, 3), end(3, 2))
	s.votes(2, 9, 0, 2, 3)
	s.ends(2, 2, 0, 3)
	s.votes(3, 9, 2, 1)
	s.ends(3, 2, 1)
	s.votes(1, 9, 0)
	s.ends(1, 0)
}

// Nodes of any numbers have shares, in any order.
func TestStartOfAllNodes(t *testing.T) {
	for _, node := range places() {
		s := started(t, 4, 0, at(node)...)
		for _, other := range places() {
			if other != node {
				s.refuses(api.ErrAway, vote(4, other, 5), end(4, other))
			}
		}
		s.votes(4, 5, node)
		s.ends(4, node)
	}
	backwards := places()
	slices.Reverse(backwards)
	for _, nodes := range [][]int{places(), backwards, {3, 1, 2, 0}, {2, -1, 7, 0}} {
		s := started(t, 4, 0, at(nodes...)...)
		s.votes(4, 5, nodes...)
		s.ends(4, nodes...)
	}
}

// Low is 0, the greatest one, and in the midst: votes are above it.
func TestStartOfLows(t *testing.T) {
	for _, low := range moments() {
		s := started(t, 4, low, at(1)...)
		s.refuses(api.ErrOld, vote(4, 1, 0), vote(4, 1, low/2), vote(4, 1, low))
		if low == latest {
			s.refuses(api.ErrWait, end(4, 1))
			s.refuses(api.ErrOld, vote(4, 1, latest-1))
			s.tells(4, at(1)...)
			continue
		}
		s.decides(low+1, vote(4, 1, low+1))
		s.ends(4, 1)
	}
}

// Each transaction has its own low, shares, votes and ends.
func TestStartOfMany(t *testing.T) {
	s := made(t)
	for i, tx := range txs() {
		s.starts(start(tx, uint64(10*i), at(i, 50)...))
		for k, other := range txs() {
			if k <= i {
				s.tells(other, at(k, 50)...)
				s.refuses(api.ErrThere, start(other, 0, at(1)...))
			} else {
				s.tells(other)
			}
		}
	}
	for i, tx := range txs() {
		s.refuses(api.ErrOld, vote(tx, 50, uint64(10*i)))
		s.takes(vote(tx, 50, uint64(10*i+1)))
		s.refuses(api.ErrAway, vote(tx, i+1, latest))
	}
	for i, tx := range txs() {
		s.refuses(api.ErrWait, end(tx, i), end(tx, 50))
		s.decides(uint64(10*i+2), vote(tx, i, uint64(10*i+2)))
		s.takes(end(tx, 50))
	}
	for i, tx := range txs() {
		s.refuses(api.ErrThere, end(tx, 50), vote(tx, i, latest))
		s.goes(end(tx, i))
	}
}

// Where several errors apply: ErrArg, then ErrThere, then ErrForm.
func TestStartOfSeveralErrors(t *testing.T) {
	s := started(t, 3, 5, at(0, 1)...)
	for range 2 {
		s.refuses(api.ErrArg, start(3, 0), start(3, latest))
		s.refuses(api.ErrThere, start(3, 0, at(0, 0)...), start(3, 5, at(1, 2, 1)...), start(3, latest, share(-1), share(-1)))
		s.refuses(api.ErrForm, start(4, 0, at(0, 0)...), start(4, 5, at(1, 2, 1)...))
	}
	s.votes(3, 6, 0, 1)
	s.refuses(api.ErrArg, start(3, 0))
	s.refuses(api.ErrThere, start(3, 0, at(0, 0)...))
	s.ends(3, 0, 1)
	s.refuses(api.ErrArg, start(3, 0))
	s.refuses(api.ErrForm, start(3, 0, at(0, 0)...))
}
