package coord_test

import (
	"testing"

	"confluence/api"
)

// What isn't in isn't voted for: neither what never was, nor what has gone, nor another one than what is.
func TestVoteOfWhatIsNotIn(t *testing.T) {
	for i, tx := range txs() {
		other := txs()[(i+1)%len(txs())]
		s := started(t, other, 5, at(0, 1)...)
		for _, stamp := range moments() {
			for _, node := range places() {
				s.refuses(api.ErrNone, vote(tx, node, stamp))
			}
		}
		s.votes(other, 6, 0, 1)
		s.refuses(api.ErrNone, vote(tx, 0, 7))
		s.ends(other, 0, 1)
		for _, stamp := range moments() {
			for _, node := range places() {
				s.refuses(api.ErrNone, vote(other, node, stamp), vote(tx, node, stamp))
			}
		}
	}
}

// A node that has no share has no vote, whatever other transactions have there.
func TestVoteOfANodeWithoutAShare(t *testing.T) {
	for _, node := range places() {
		s := started(t, 4, 5, at(node)...)
		s.starts(start(5, 5, at(places()...)...))
		wantAway := func() {
			t.Helper()
			for _, other := range places() {
				for _, stamp := range moments() {
					if other != node {
						s.refuses(api.ErrAway, vote(4, other, stamp))
					}
				}
			}
		}
		wantAway()
		s.decides(6, vote(4, node, 6))
		s.takes(vote(5, node, 6))
		wantAway()
	}
}

// A node votes once: neither at another stamp nor at the same it votes again, and its first vote stands.
func TestVoteOfANodeThatHasVoted(t *testing.T) {
	for _, first := range []uint64{6, 70000, latest - 1} {
		s := started(t, 4, 5, at(0, 1)...)
		s.takes(vote(4, 1, first))
		for _, stamp := range moments() {
			s.refuses(api.ErrThere, vote(4, 1, stamp), vote(4, 1, first))
		}
		s.refuses(api.ErrWait, end(4, 1), end(4, 0))
		s.decides(first, vote(4, 0, 6))
	}
}

// Behind the last vote each node has voted, also when some have ended.
func TestVoteBehindTheLast(t *testing.T) {
	s := started(t, 4, 5, at(0, 1, 2)...)
	again := func() {
		t.Helper()
		for _, stamp := range moments() {
			s.refuses(api.ErrThere, vote(4, 0, stamp), vote(4, 1, stamp), vote(4, 2, stamp))
			s.refuses(api.ErrAway, vote(4, 3, stamp))
		}
	}
	s.takes(vote(4, 2, 9), vote(4, 0, 8))
	s.decides(9, vote(4, 1, 7))
	again()
	s.takes(end(4, 1))
	again()
	s.takes(end(4, 2))
	again()
	s.goes(end(4, 0))
	s.refuses(api.ErrNone, vote(4, 0, 9), vote(4, 1, 9), vote(4, 2, 9))
}

// A stamp below low or at it is refused, and the node may vote still; one just above it isn't, nor the greatest one.
func TestVoteAtAStamp(t *testing.T) {
	for _, low := range []uint64{0, 1, 5, 65535, 65536, 1<<63 - 1, 1 << 63, latest - 2, latest - 1} {
		for _, stamp := range []uint64{low + 1, low + 1 + (latest-low-1)/2, latest} {
			s := started(t, 4, low, at(2)...)
			s.refuses(api.ErrOld, vote(4, 2, 0), vote(4, 2, low/2), vote(4, 2, low-min(low, 1)), vote(4, 2, low))
			s.decides(stamp, vote(4, 2, stamp))
			s = started(t, 4, low, at(2, 0)...)
			s.refuses(api.ErrOld, vote(4, 0, 0), vote(4, 2, low/2), vote(4, 0, low-min(low, 1)), vote(4, 2, low))
			s.takes(vote(4, 0, low+1))
			s.refuses(api.ErrOld, vote(4, 2, low), vote(4, 2, 0))
			s.decides(stamp, vote(4, 2, stamp))
		}
	}
}

// With the greatest low there is no stamp above it.
func TestVoteAboveTheGreatestLow(t *testing.T) {
	s := started(t, 4, latest, at(2, 0)...)
	for _, stamp := range moments() {
		s.refuses(api.ErrOld, vote(4, 0, stamp), vote(4, 2, stamp))
	}
	s.refuses(api.ErrWait, end(4, 0), end(4, 2))
	s.tells(4, at(2, 0)...)
}

// Votes may be below those ahead of them, and below other transactions' lows.
func TestVoteHoldsItsOwnLow(t *testing.T) {
	s := started(t, 1, 5, at(0, 1)...)
	s.starts(start(2, 500, at(0, 1)...), start(3, 0, at(0, 1)...))
	s.takes(vote(2, 0, 501), vote(1, 0, 100), vote(3, 0, 6))
	s.refuses(api.ErrOld, vote(2, 1, 500), vote(1, 1, 5), vote(3, 1, 0))
	s.decides(100, vote(1, 1, 6))
	s.decides(6, vote(3, 1, 1))
	s.decides(501, vote(2, 1, 501))
}

// Where several errors apply: ErrNone, then ErrAway, then ErrThere, then ErrOld.
func TestVoteOfSeveralErrors(t *testing.T) {
	s := started(t, 4, 50, at(0, 1)...)
	s.takes(vote(4, 0, 60))
	for range 2 {
		s.refuses(api.ErrNone, vote(5, 2, 0), vote(5, 0, 50), vote(5, 0, 0))
		s.refuses(api.ErrAway, vote(4, 2, 0), vote(4, -1, 50), vote(4, highest, 3))
		s.refuses(api.ErrThere, vote(4, 0, 0), vote(4, 0, 50), vote(4, 0, 60), vote(4, 0, 61))
		s.refuses(api.ErrOld, vote(4, 1, 0), vote(4, 1, 50))
	}
	s.decides(60, vote(4, 1, 51))
	s.refuses(api.ErrAway, vote(4, 2, 0))
	s.refuses(api.ErrThere, vote(4, 1, 0), vote(4, 1, 51))
	s.ends(4, 0, 1)
	s.refuses(api.ErrNone, vote(4, 2, 0), vote(4, 0, 0), vote(4, 1, 99))
}

// ballots are what nodes vote, of which the greatest is first, last, in the midst, or there several times.
func ballots() [][]uint64 {
	return [][]uint64{{8}, {latest}, {8, 8}, {8, 9}, {6, latest}, {6, 7, 8}, {8, 8, 8}, {7, 7, 8}, {7, 8, 8}, {latest, latest, 6}, {6, 1 << 32, 1 << 63}, {6, 7, 8, 9}, {9, 9, 6, 6}, {7, 8, 8, 6}, {65535, 65536, 65537, 65536}, {1 << 63, 1<<63 - 1, latest, latest - 1}}
}

// The last vote answers the greatest of all, in whatever order they come, and whatever node has which.
func TestTheGreatestVote(t *testing.T) {
	for _, low := range []uint64{0, 5} {
		for _, ballot := range ballots() {
			greatest := uint64(0)
			var votes []call
			for node, stamp := range ballot {
				greatest = max(greatest, stamp)
				votes = append(votes, vote(4, node, stamp))
			}
			orders(votes, func(l []call) {
				s, last := started(t, 4, low, at([]int{0, 1, 2, 3}[:len(l)]...)...), len(l)-1
				s.takes(l[:last]...)
				s.decides(greatest, l[last])
			})
		}
	}
}

// Of many nodes, whichever of them has the greatest vote.
func TestTheGreatestVoteOfMany(t *testing.T) {
	var nodes []int
	for node := range 60 {
		nodes = append(nodes, node)
	}
	for _, high := range nodes {
		stamps := make([]uint64, len(nodes))
		for node := range stamps {
			stamps[node] = uint64(node%7 + 1)
		}
		stamps[high] = 1000
		s := started(t, 9, 0, at(nodes...)...)
		for node, stamp := range stamps[:59] {
			s.takes(vote(9, node, stamp))
		}
		s.decides(1000, vote(9, 59, stamps[59]))
	}
}
