package session_test

import (
	"testing"

	"confluence/api"
)

// Where none is open nothing is committed: ahead of all, behind Close and behind Commit; also where the time is too low.
func TestCommitWhereNoneIsOpen(t *testing.T) {
	s := begun(t)
	s.commit(api.ErrTx, anyMarks()...)
	s.want(false, 0, 0)
	s.begin(5, 5)
	s.write(api.OK, written("a", "x"))
	s.close(api.OK)
	s.commit(api.ErrTx, anyMarks()...)
	s.want(false, 5, 5)
	s.commits(at(9), written("b", "y"))
	s.commit(api.ErrTx, anyMarks()...)
	s.want(false, 5, 9)
	s.begin(0, 5)
	s.unknown("a")
	s.look(2, by(at(9), written("b", "y")))
}

// The time has to be above Low: be Low Snap, or the last commit's time.
func TestCommitHasToBeAboveLow(t *testing.T) {
	for _, snap := range moments() {
		for _, ts := range moments() {
			s := begun(t)
			s.begin(snap, snap)
			s.write(api.OK, written("a", "x"))
			wantAbove(s, snap, snap, ts)
		}
	}
	for _, last := range moments()[3:] {
		for _, ts := range append(moments(), last-1, last, min(last, latest-1)+1) {
			s := begun(t)
			s.begin(3, 3)
			s.commit(api.OK, at(last))
			s.begin(4, 4)
			s.write(api.OK, written("a", "x"))
			wantAbove(s, 4, last, ts)
		}
	}
}

// wantAbove wants of a session with an open transaction, that writes x to a, that it commits if the time is above Low, and that nothing is changed if it isn't.
func wantAbove(s *scene, snap, low, ts uint64) {
	s.Helper()
	m := api.Mark{TS: ts, DC: 1, Tx: 3}
	if ts <= low {
		s.commit(api.ErrOld, m, api.Mark{TS: ts, DC: highest, Tx: highest})
		s.want(true, snap, low)
		s.writes(written("a", "x"))
		s.look(1, written("a", "x"))
		return
	}
	s.commit(api.OK, m)
	s.want(false, snap, ts)
	s.writes()
	s.begin(0, snap)
	s.look(2, by(m, written("a", "x")))
}

// Snap behind a commit that it sees is Low.
func TestLowWhereSnapIsGreater(t *testing.T) {
	s := begun(t)
	s.begin(5, 5)
	s.commit(api.OK, at(9))
	s.want(false, 5, 9)
	s.begin(8, 8)
	s.want(true, 8, 9)
	s.commit(api.ErrOld, at(8), at(9))
	s.close(api.OK)
	s.begin(9, 9)
	s.want(true, 9, 9)
	s.commit(api.ErrOld, at(9))
	s.close(api.OK)
	s.begin(12, 12)
	s.want(true, 12, 12)
	s.commit(api.ErrOld, at(9), at(10), at(12))
	s.want(true, 12, 12)
	s.commit(api.OK, at(13))
	s.want(false, 12, 13)
}

// At the greatest time there is no commit more.
func TestCommitAtTheGreatestTime(t *testing.T) {
	s := begun(t)
	s.commits(at(latest), written("a", "x"))
	s.want(false, 0, latest)
	s.begin(latest-1, latest-1)
	s.look(2, by(at(latest), written("a", "x")))
	s.write(api.OK, written("b", "y"))
	s.commit(api.ErrOld, anyMarks()...)
	s.want(true, latest-1, latest)
	s.close(api.OK)
	s.begin(latest, latest)
	s.unknown("a", "b")
	s.commit(api.ErrOld, anyMarks()...)
	s.want(true, latest, latest)
	s.close(api.OK)
}

// Any number of a datacenter and of a transaction is taken, and stands with the version.
func TestCommitOfAnyMark(t *testing.T) {
	for _, dc := range ends() {
		for _, tx := range ends() {
			s := begun(t)
			m := api.Mark{TS: 6, DC: dc, Tx: tx}
			s.commits(m, written("a", "x"), gone("b"))
			s.want(false, 0, 6)
			s.begin(5, 5)
			s.look(2, by(m, written("a", "x")), by(m, gone("b")))
		}
	}
}

// One that writes nothing raises Low, and leaves the cache as it was.
func TestCommitOfNothing(t *testing.T) {
	s := begun(t)
	s.commits(at(3))
	s.want(false, 0, 3)
	s.commits(at(4), written("a", "x"))
	s.commits(at(7))
	s.want(false, 0, 7)
	s.begin(3, 3)
	s.look(2, by(at(4), written("a", "x")))
	s.unknown("b", "")
	s.close(api.OK)
	s.begin(4, 4)
	s.unknown("a")
	s.want(true, 4, 7)
}

// What the cache has of a key is of the last commit that wrote it; of others it stays.
func TestCommitInThePlaceOfAnother(t *testing.T) {
	s := begun(t)
	first, second, third := api.Mark{TS: 4, DC: 1, Tx: 1}, api.Mark{TS: 6, DC: 2, Tx: 9}, api.Mark{TS: 8, Tx: 3}
	s.commits(first, written("a", "1"), written("b", "1"), gone("c"), written("d", "1"))
	s.commits(second, written("a", "2"), gone("b"), written("c", "2"))
	s.begin(0, 0)
	s.look(2, by(second, written("a", "2")), by(second, gone("b")), by(second, written("c", "2")), by(first, written("d", "1")))
	s.write(api.OK, gone("a"), written("b", "1"), written("e", ""))
	s.commit(api.OK, third)
	s.begin(4, 4)
	s.look(2, by(third, gone("a")), by(third, written("b", "1")), by(second, written("c", "2")), by(third, written("e", "")))
	s.unknown("d")
	s.close(api.OK)
	s.begin(6, 6)
	s.look(2, by(third, gone("a")), by(third, written("b", "1")), by(third, written("e", "")))
	s.unknown("c", "d")
	s.close(api.OK)
	s.begin(8, 8)
	s.unknown("a", "b", "c", "d", "e")
}

// Many keys, of commits one behind the other.
func TestCommitOfManyKeys(t *testing.T) {
	s := begun(t)
	var l []api.Ver
	for i := range 60 {
		m := api.Mark{TS: uint64(10 + 2*i), DC: i, Tx: -i}
		var some []api.Ver
		for k := range api.MostWrites {
			v := written(string(rune('A'+i))+string(rune('a'+k)), long(i))
			if k%3 == 2 {
				v.Val, v.Gone = "", true
			}
			some = append(some, v)
			l = append(l, by(m, v))
		}
		s.commits(m, some...)
	}
	for _, snap := range []uint64{9, 10, 11, 50, 51, 127, 128} {
		s.begin(snap, snap)
		for _, v := range l {
			if v.TS > snap {
				s.look(2, v)
			} else {
				s.unknown(v.Key)
			}
		}
		s.close(api.OK)
	}
}

// Close forgets what was written, and leaves Snap, Low and the cache as they were.
func TestClose(t *testing.T) {
	s := begun(t)
	s.close(api.ErrTx)
	s.want(false, 0, 0)
	s.commits(at(9), written("a", "x"))
	s.close(api.ErrTx)
	s.want(false, 0, 9)
	s.begin(7, 7)
	s.write(api.OK, written("a", "y"), gone("b"))
	s.close(api.OK)
	s.want(false, 7, 9)
	s.writes()
	s.unknown("a", "b")
	s.close(api.ErrTx)
	s.want(false, 7, 9)
	s.begin(0, 7)
	s.writes()
	s.look(2, by(at(9), written("a", "x")))
	s.unknown("b")
	s.commit(api.OK, at(10))
	s.begin(0, 7)
	s.look(2, by(at(9), written("a", "x")))
	s.unknown("b")
	s.close(api.OK)
}

// Snap and Low ahead of all, and behind each call, be it refused or not.
func TestSnapAndLow(t *testing.T) {
	s := begun(t)
	s.want(false, 0, 0)
	s.begin(5, 5)
	s.want(true, 5, 5)
	s.refuseBegin(api.ErrTx, 9)
	s.want(true, 5, 5)
	s.write(api.OK, written("a", "x"))
	s.want(true, 5, 5)
	s.commit(api.ErrOld, at(5))
	s.want(true, 5, 5)
	s.commit(api.OK, at(7))
	s.want(false, 5, 7)
	s.commit(api.ErrTx, at(20))
	s.want(false, 5, 7)
	s.close(api.ErrTx)
	s.begin(6, 6)
	s.want(true, 6, 7)
	s.close(api.OK)
	s.want(false, 6, 7)
	s.begin(3, 6)
	s.want(true, 6, 7)
	s.commit(api.ErrOld, at(6), at(7))
	s.want(true, 6, 7)
	s.commit(api.OK, at(8))
	s.want(false, 6, 8)
	s.begin(11, 11)
	s.want(true, 11, 11)
	s.close(api.OK)
	s.want(false, 11, 11)
}
