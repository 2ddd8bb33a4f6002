package session_test

import (
	"testing"

	"confluence/api"
)

// The chapter's example.
func TestExample(t *testing.T) {
	s := begun(t)
	s.begin(5, 5)
	s.write(api.OK, written("a", "x"))
	s.look(1, written("a", "x"))
	s.commit(api.OK, at(9))
	s.want(false, 5, 9)
	s.begin(6, 6)
	s.look(2, by(at(9), written("a", "x")))
	s.close(api.OK)
	s.begin(9, 9)
	s.unknown("a")
}

// wantFirst wants of a session that was just made that it has seen nothing.
func wantFirst(s *scene) {
	s.Helper()
	s.want(false, 0, 0)
	s.writes()
	s.unknown(anyKeys()...)
	s.write(api.ErrTx, anyWrites()...)
	s.commit(api.ErrTx, anyMarks()...)
	s.close(api.ErrTx)
	s.want(false, 0, 0)
	s.writes()
	s.unknown(anyKeys()...)
}

func TestNewHasSeenNothing(t *testing.T) {
	s := begun(t)
	wantFirst(s)
	s.begin(0, 0)
	s.want(true, 0, 0)
	s.writes()
	s.unknown(anyKeys()...)
}

// Each new one is a session of its own.
func TestNewAgain(t *testing.T) {
	s := begun(t)
	s.commits(at(9), written("a", "x"))
	s.begin(6, 6)
	s.write(api.OK, written("b", "y"))
	wantFirst(begun(t))
	s.want(true, 6, 9)
	s.writes(written("b", "y"))
	s.look(2, by(at(9), written("a", "x")))
}

// The first one, at each time.
func TestBeginOfANewSession(t *testing.T) {
	for _, time := range moments() {
		s := begun(t)
		s.begin(time, time)
		s.want(true, time, time)
		s.writes()
		s.unknown(anyKeys()...)
	}
}

// The second one, at each time: Snap is raised, never lowered.
func TestBeginAgain(t *testing.T) {
	for _, first := range moments() {
		for _, second := range moments() {
			s := begun(t)
			s.begin(first, first)
			s.close(api.OK)
			s.want(false, first, first)
			s.begin(second, max(first, second))
			s.want(true, max(first, second), max(first, second))
			s.writes()
		}
	}
}

// Where one is open Begin changes nothing, Snap neither, whatever time it is told.
func TestBeginWhereOneIsOpen(t *testing.T) {
	s := begun(t)
	s.begin(3, 3)
	s.write(api.OK, written("a", "x"), written("c", "z"))
	s.commit(api.OK, at(9))
	s.begin(5, 5)
	for range 2 {
		s.refuseBegin(api.ErrTx, moments()...)
		s.refuseBegin(api.ErrTx, 4, 5, 6, 8, 9, 10)
		s.want(true, 5, 9)
		s.look(2, by(at(9), written("a", "x")), by(at(9), written("c", "z")))
		s.writes()
	}
	s.write(api.OK, written("a", "y"), gone("b"))
	for range 2 {
		s.refuseBegin(api.ErrTx, moments()...)
		s.want(true, 5, 9)
		s.writes(written("a", "y"), gone("b"))
		s.look(1, written("a", "y"), gone("b"))
		s.look(2, by(at(9), written("c", "z")))
	}
	s.close(api.OK)
	s.begin(0, 5)
	s.look(2, by(at(9), written("a", "x")))
}

// A new one writes nothing, however the one ahead of it came to its end.
func TestBeginWritesNothing(t *testing.T) {
	for _, committed := range []bool{false, true} {
		s := begun(t)
		s.begin(3, 3)
		s.write(api.OK, written("a", "x"), gone("b"))
		if committed {
			s.commit(api.OK, at(4))
		} else {
			s.close(api.OK)
		}
		s.begin(4, 4)
		s.writes()
		s.unknown("a", "b")
		for _, key := range eight() {
			s.write(api.OK, written(key, "y"))
		}
	}
}

// Versions of the cache go where the time isn't above the new Snap; the others stay.
func TestBeginLetsGoWhatIsSeen(t *testing.T) {
	keys, times := eight(), []uint64{4, 5, 6, 9, 65536, 1 << 32, 1 << 63, latest}
	for _, stable := range append(moments(), 3, 4, 5, 6, 7, 8, 9, 10, 65537) {
		s := begun(t)
		for i, key := range keys {
			s.commits(at(times[i]), written(key, "of "+key))
		}
		s.begin(stable, stable)
		s.want(true, stable, latest)
		for i, key := range keys {
			if times[i] > stable {
				s.look(2, by(at(times[i]), written(key, "of "+key)))
			} else {
				s.unknown(key)
			}
		}
	}
}

// What counts is Snap, not the time that Begin is told.
func TestBeginLetsGoBySnap(t *testing.T) {
	s := begun(t)
	s.begin(5, 5)
	s.write(api.OK, written("a", "x"))
	s.commit(api.OK, at(6))
	for _, time := range []uint64{0, 1, 4, 5} {
		s.begin(time, 5)
		s.look(2, by(at(6), written("a", "x")))
		s.close(api.OK)
	}
	s.begin(6, 6)
	s.unknown("a")
	s.close(api.OK)
	s.begin(0, 6)
	s.unknown("a")
}

// What is let go stays so.
func TestWhatIsLetGoStaysAway(t *testing.T) {
	s := begun(t)
	s.commits(at(7), written("a", "x"), gone("b"))
	s.commits(at(8), written("b", "y"))
	s.begin(7, 7)
	s.unknown("a")
	s.look(2, by(at(8), written("b", "y")))
	s.write(api.OK, written("a", "z"))
	s.close(api.OK)
	s.begin(0, 7)
	s.unknown("a")
	s.look(2, by(at(8), written("b", "y")))
	s.close(api.OK)
	s.begin(latest, latest)
	s.unknown("a", "b")
	s.want(true, latest, latest)
}

// Open ahead of all, and behind each call, be it refused or not.
func TestOpen(t *testing.T) {
	s := begun(t)
	for range 3 {
		low := s.session.Low()
		snap := s.session.Snap()
		s.want(false, snap, low)
		s.close(api.ErrTx)
		s.want(false, snap, low)
		s.commit(api.ErrTx, at(0), at(low), at(low+1), at(latest))
		s.want(false, snap, low)
		s.write(api.ErrTx, written("a", "x"))
		s.want(false, snap, low)
		s.begin(low, low)
		s.want(true, low, low)
		s.refuseBegin(api.ErrTx, 0, low, low+1, latest)
		s.want(true, low, low)
		s.write(api.ErrLong, written(long(17), ""))
		s.write(api.ErrArg, written("", ""))
		s.write(api.OK, written("a", "x"))
		s.want(true, low, low)
		s.commit(api.ErrOld, at(0), at(low))
		s.want(true, low, low)
		s.close(api.OK)
		s.want(false, low, low)
		s.begin(0, low)
		s.want(true, low, low)
		s.commit(api.OK, at(low+4))
		s.want(false, low, low+4)
	}
}
