package session_test

import (
	"testing"

	"confluence/api"
)

// What the open one writes is found first, then what the cache has, then nothing.
func TestLookOrder(t *testing.T) {
	s := begun(t)
	m := api.Mark{TS: 9, DC: 3, Tx: 12}
	s.commits(m, written("a", "x"), gone("b"), written("c", "z"))
	s.begin(0, 0)
	s.look(2, by(m, written("a", "x")), by(m, gone("b")), by(m, written("c", "z")))
	s.write(api.OK, gone("a"), written("b", "y"), written("d", "w"))
	s.look(1, gone("a"), written("b", "y"), written("d", "w"))
	s.look(2, by(m, written("c", "z")))
	s.unknown("e", "", "aa", "A", "a\x00", long(api.MostKey), long(api.MostKey+1))
}

// Behind Close the cache's version is found again, in the next one.
func TestLookBehindClose(t *testing.T) {
	s := begun(t)
	s.commits(at(9), written("a", "x"))
	s.begin(0, 0)
	s.write(api.OK, written("a", "y"), written("b", "y"))
	s.look(1, written("a", "y"), written("b", "y"))
	s.close(api.OK)
	s.unknown("a", "b")
	s.begin(0, 0)
	s.look(2, by(at(9), written("a", "x")))
	s.unknown("b")
}

// Where none is open nothing is found, whatever was written and committed.
func TestLookWhereNoneIsOpen(t *testing.T) {
	s := begun(t)
	s.unknown(anyKeys()...)
	for i, key := range eight() {
		s.begin(0, 0)
		s.unknown(key)
		s.write(api.OK, written(key, "x"))
		s.commit(api.OK, at(uint64(i+1)))
		s.unknown(anyKeys()...)
		s.begin(0, 0)
		s.look(2, by(at(uint64(i+1)), written(key, "x")))
		s.close(api.OK)
		s.unknown(anyKeys()...)
	}
}

// A write that was refused isn't found.
func TestLookOfWhatWasRefused(t *testing.T) {
	s := opened(t)
	s.write(api.ErrLong, written("a", long(api.MostVal+1)), written(long(api.MostKey+1), "x"))
	s.write(api.ErrArg, written("", "x"), api.Ver{Key: "b", Val: "x", Gone: true})
	s.unknown("a", "b", "", long(api.MostKey+1), long(api.MostKey))
	s.write(api.OK, written("a", "x"))
	s.write(api.ErrLong, written("a", long(api.MostVal+1)))
	s.write(api.ErrArg, api.Ver{Key: "a", Val: "y", Gone: true})
	s.look(1, written("a", "x"))
}

// Asking changes nothing: what is found is found again, and so is nothing.
func TestLookAgain(t *testing.T) {
	s := begun(t)
	s.commits(at(9), written("a", "x"))
	s.begin(0, 0)
	s.write(api.OK, written("b", "y"))
	for range 3 {
		s.look(1, written("b", "y"))
		s.look(2, by(at(9), written("a", "x")))
		s.unknown(append(strange()[:5], "")...)
		s.writes(written("b", "y"))
		s.want(true, 0, 9)
	}
	s.commit(api.OK, at(10))
	s.begin(9, 9)
	s.look(2, by(at(10), written("b", "y")))
	s.unknown("a")
}
