package coord_test

import (
	"fmt"
	"slices"
	"testing"

	"confluence/api"
	"confluence/coord"
)

// strangeShares are lists of shares of all kinds, those too that are refused.
func strangeShares() [][]coord.Share {
	return [][]coord.Share{nil, {}, at(0), at(0, 1, 2, 3), at(1, 1), at(places()...), {share(3)}, {share(lowest), share(highest, strangeVersions()...)}, {share(0, strangeVersions()...), share(0)}}
}

// strangeCalls are calls with transactions, nodes, stamps and shares of all kinds.
func strangeCalls() []call {
	var l []call
	for _, tx := range txs() {
		for _, stamp := range moments() {
			for _, shares := range strangeShares() {
				l = append(l, start(tx, stamp, shares...))
			}
			for _, node := range places() {
				l = append(l, vote(tx, node, stamp))
			}
		}
		for _, node := range places() {
			l = append(l, end(tx, node))
		}
	}
	return l
}

// Of a nil table calls with an error answer ErrArg, whatever else is wrong, and the others nothing.
func TestNilTable(t *testing.T) {
	s := &scene{T: t, promise: "P17.1: of a nil table"}
	for range 2 {
		s.counts()
		for _, c := range strangeCalls() {
			s.refuses(api.ErrArg, c)
		}
		for _, tx := range txs() {
			s.tells(tx)
		}
		for _, lo := range strange() {
			for _, hi := range strange() {
				s.touches(false, lo, hi)
			}
		}
	}
}

// asks asks a table all that may be asked.
func asks(t *coord.Table, tx uint64, lo, hi string) {
	t.Writes(tx)
	t.Nodes(tx)
	t.Touches(lo, hi)
	t.Len()
}

func TestNothingPanics(t *testing.T) {
	doing := "a new table"
	defer func() {
		if thrown := recover(); thrown != nil {
			t.Errorf("R1: %s panics: %v", doing, thrown)
		}
	}()
	backwards := strangeCalls()
	slices.Reverse(backwards)
	for _, calls := range [][]call{strangeCalls(), backwards} {
		table := coord.New()
		for i, c := range calls {
			doing = c.String()
			c.of(table)
			c.of(coord.New())
			asks(table, c.tx, strange()[i%len(strange())], strange()[i/7%len(strange())])
		}
	}
	for _, c := range strangeCalls() {
		doing = fmt.Sprintf("%s of a table in which all are", c)
		table := coord.New()
		table.Start(c.tx, c.stamp, at(places()...))
		table.Start(c.tx+1, 0, at(1))
		c.of(table)
		asks(table, c.tx, "", "")
		for _, node := range places() {
			table.Vote(c.tx, node, latest)
			c.of(table)
		}
		for _, node := range places() {
			table.End(c.tx, node)
			c.of(table)
		}
		asks(table, c.tx, "", "")
	}
	for _, m := range append(wrongMaps(), eightShards()) {
		doing = fmt.Sprintf("Shares of nodes %v, cuts %.20q", m.Nodes, m.Cuts)
		coord.Shares(m, nil)
		coord.Shares(m, strangeVersions())
		coord.Shares(m, keyed(strange()...))
	}
}
