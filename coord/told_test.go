package coord_test

import (
	"slices"
	"testing"

	"confluence/api"
)

// Of what isn't in nothing is told: of what never was, what was refused, and what has gone.
func TestToldOfWhatIsNotIn(t *testing.T) {
	for i, tx := range txs() {
		other := txs()[(i+1)%len(txs())]
		s := made(t)
		s.tells(tx)
		s.refuses(api.ErrArg, start(tx, 0))
		s.tells(tx)
		s.refuses(api.ErrForm, start(tx, 0, at(1, 1)...))
		s.tells(tx)
		s.starts(start(other, 0, at(0, 1)...))
		s.tells(tx)
		s.votes(other, 5, 0, 1)
		s.ends(other, 1, 0)
		s.tells(tx)
		s.tells(other)
	}
}

// What is told is the same from Start to the last End.
func TestToldOfWhatIsIn(t *testing.T) {
	for _, tx := range txs() {
		shares := append(at(2, 0), share(3, strangeVersions()...))
		s := started(t, tx, 5, shares...)
		s.refuses(api.ErrThere, start(tx, 5, at(1)...))
		for _, c := range []call{vote(tx, 3, 6), vote(tx, 2, 9)} {
			s.takes(c)
			s.tells(tx, shares...)
		}
		s.decides(9, vote(tx, 0, 8))
		s.tells(tx, shares...)
		for _, c := range []call{end(tx, 0), end(tx, 3)} {
			s.takes(c)
			s.tells(tx, shares...)
		}
		s.goes(end(tx, 2))
		s.tells(tx)
		s.starts(start(tx, 5, at(1)...))
	}
}

// Writes and Nodes tell the shares in their order, whatever their nodes are.
func TestToldShareByShare(t *testing.T) {
	orders([]int{0, 1, 3, -2}, func(nodes []int) {
		shares := at(nodes...)
		shares[1].Vers = keyed("z", "a", "z", "", "b")
		shares[3].Vers = strangeVersions()
		s := started(t, 8, 0, shares...)
		s.starts(start(9, 0, shares[2:]...), start(10, 0, shares[:2]...), start(11, 0, shares[1]))
		s.tells(8, shares...)
	})
	backwards := places()
	slices.Reverse(backwards)
	started(t, 1, 0, at(places()...)...)
	started(t, 1, 0, at(backwards...)...)
}

// The same version may stand in several shares, and several times in one.
func TestToldOfTheSameVersions(t *testing.T) {
	same := keyed("a", "a", "b")
	started(t, 1, 0, share(1, append(same, same...)...), share(0, same...), share(2, same[0], same[0]))
}

// Of shares without versions the nodes are told.
func TestToldOfSharesWithoutVersions(t *testing.T) {
	one := version("a", "x")
	s := started(t, 1, 0, share(3))
	s.starts(start(2, 0, share(2), share(0, []api.Ver{}...), share(1)))
	s.starts(start(3, 0, share(2), share(0, one), share(1)))
	s.starts(start(4, 0, share(2, one), share(0), share(1, one)))
	s.starts(start(5, 0, share(-1), share(4, keyed("p", "q")...)))
	for _, c := range []struct {
		tx    uint64
		count int
		nodes []int
	}{{1, 0, []int{3}}, {2, 0, []int{2, 0, 1}}, {3, 1, []int{2, 0, 1}}, {4, 2, []int{2, 0, 1}}, {5, 2, []int{-1, 4}}} {
		if writes, nodes := s.table.Writes(c.tx), s.table.Nodes(c.tx); len(writes) != c.count || !slices.Equal(nodes, c.nodes) {
			s.wrong("of %d Writes answers %s, and Nodes %v", c.tx, quoted(writes), nodes)
		}
	}
}

// Many versions, in many shares.
func TestToldOfMany(t *testing.T) {
	n := numbers(21)
	shares := at(places()...)
	for i := range shares {
		shares[i].Vers = anyWrites(&n, 900)
	}
	s := started(t, 6, 0, shares...)
	s.votes(6, 3, places()...)
	s.tells(6, shares...)
}
