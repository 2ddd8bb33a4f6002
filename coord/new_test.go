package coord_test

import (
	"testing"

	"confluence/api"
)

// The chapter's example.
func TestExample(t *testing.T) {
	s := made(t)
	s.starts(start(7, 5, at(0, 2)...))
	s.takes(vote(7, 0, 9))
	s.refuses(api.ErrWait, end(7, 0))
	s.decides(9, vote(7, 2, 6))
	s.takes(end(7, 0))
	s.goes(end(7, 2))
	s.refuses(api.ErrNone, end(7, 2))
}

// A table that was just made has no transaction.
func TestNew(t *testing.T) {
	s := made(t)
	s.counts()
	for _, tx := range txs() {
		s.tells(tx)
		for _, node := range places() {
			s.refuses(api.ErrNone, end(tx, node))
			for _, stamp := range moments() {
				s.refuses(api.ErrNone, vote(tx, node, stamp))
			}
		}
	}
	for _, lo := range strange() {
		for _, hi := range strange() {
			s.touches(false, lo, hi)
		}
	}
	s.counts()
}

// Each call as the first one of a table.
func TestFirstCalls(t *testing.T) {
	for _, tx := range txs() {
		for _, low := range moments() {
			made(t).refuses(api.ErrArg, start(tx, low))
			made(t).refuses(api.ErrForm, start(tx, low, at(1, 1)...))
			s := made(t)
			s.starts(start(tx, low, at(1)...))
			s.touches(true, "k1", "k2")
			s.touches(false, "k2", "")
		}
		for _, node := range places() {
			made(t).refuses(api.ErrNone, vote(tx, node, 1))
			made(t).refuses(api.ErrNone, end(tx, node))
		}
	}
}

// Len counts those that are in, from call to call.
func TestLen(t *testing.T) {
	s := made(t)
	s.counts()
	for i, tx := range txs() {
		s.refuses(api.ErrArg, start(tx, 0))
		s.refuses(api.ErrForm, start(tx, 0, at(2, 2)...))
		s.starts(start(tx, 0, at(0, 3)...))
		s.refuses(api.ErrThere, start(tx, 0, at(0, 3)...))
		if is := s.table.Len(); is != i+1 {
			s.wrong("Len answers %d, not %d", is, i+1)
		}
	}
	for i, tx := range txs() {
		s.refuses(api.ErrAway, vote(tx, 1, 1), end(tx, 1))
		s.votes(tx, 4, 3, 0)
		s.refuses(api.ErrThere, vote(tx, 0, 1))
		s.ends(tx, 3, 0)
		s.refuses(api.ErrNone, end(tx, 0), vote(tx, 0, 9))
		if is := s.table.Len(); is != len(txs())-i-1 {
			s.wrong("Len answers %d, not %d", is, len(txs())-i-1)
		}
	}
}

// Many at once.
func TestLenOfMany(t *testing.T) {
	s := made(t)
	for tx := range uint64(2000) {
		s.starts(start(tx*tx, 3, at(int(tx%4))...))
	}
	for tx := range uint64(2000) {
		s.votes(tx*tx, 4+tx, int(tx%4))
	}
	for tx := range uint64(2000) {
		s.ends(tx*tx, int(tx%4))
	}
	if is := s.table.Len(); is != 0 {
		s.wrong("Len answers %d, not 0", is)
	}
}
