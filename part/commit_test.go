package part_test

import (
	"testing"

	"confluence/api"
)

// oneOpen is a scene of a side that proposed 10 to a transaction, and whose clock is at 40.
func oneOpen(t *testing.T, tx uint64) *scene {
	t.Helper()
	s := begun(t)
	s.proposes(10, prepare(tx, 9, 0))
	s.raises(40, see(40))
	return s
}

// What isn't prepared isn't committed: neither what never was, nor what was committed, nor another one than what is.
func TestCommitOfWhatIsNotPrepared(t *testing.T) {
	for i, tx := range txs() {
		other := txs()[(i+1)%len(txs())]
		s := oneOpen(t, other)
		for _, stamp := range moments() {
			for _, ms := range readings() {
				s.refuses(api.ErrNone, commit(tx, stamp, ms))
			}
		}
		s.raises(40, commit(other, 10, 0))
		for _, stamp := range moments() {
			for _, ms := range readings() {
				s.refuses(api.ErrNone, commit(tx, stamp, ms), commit(other, stamp, ms))
			}
		}
		s.stable(0, 40, 40)
	}
}

// A stamp below what was proposed is refused, and the transaction stays prepared; at it and above it, it isn't.
func TestCommitAtAStamp(t *testing.T) {
	for _, tx := range txs() {
		s := oneOpen(t, tx)
		for _, ms := range readings() {
			s.refuses(api.ErrOld, commit(tx, 0, ms), commit(tx, 1, ms), commit(tx, 8, ms), commit(tx, 9, ms))
			s.refuses(api.ErrThere, prepare(tx, 0, ms))
		}
		s.stable(0, 9, 40)
		s.raises(40, commit(tx, 10, 0))
	}
	for _, c := range []struct{ stamp, clock uint64 }{{10, 40}, {11, 40}, {39, 40}, {40, 40}, {41, 41}, {65535, 65535}, {65536, 65536}, {1 << 63, 1 << 63}, {lastReading, lastReading}, {latest - 1, latest - 1}, {latest, latest}} {
		s := oneOpen(t, 3)
		s.raises(c.clock, commit(3, c.stamp, 0))
		s.stable(0, c.clock, c.clock)
		s.refuses(api.ErrNone, commit(3, c.stamp, 0), commit(3, latest, 0), commit(3, 0, 0))
	}
}

// What was proposed at the ends of the clock.
func TestCommitOfProposalsAtTheEnds(t *testing.T) {
	for _, proposed := range []uint64{1, 2, 65535, 65536, 1<<63 - 1, 1 << 63, lastReading, latest - 1, latest} {
		s := begun(t)
		s.proposes(proposed, prepare(1, proposed-1, 0))
		s.refuses(api.ErrOld, commit(1, 0, 0), commit(1, proposed/2, 0), commit(1, proposed-1, api.MostMillis))
		s.raises(proposed, commit(1, proposed, 0))
		s.stable(0, proposed, proposed)
	}
}

// Readings below the clock, at it and above it, with a stamp below what they raise to, at it and above it.
func TestCommitAtAReading(t *testing.T) {
	clock := ticks(5) + 3
	for _, c := range []struct {
		stamp uint64
		ms    int
		want  uint64
	}{
		{1, 0, clock},
		{1, 4, clock},
		{1, 5, clock},
		{clock, 5, clock},
		{clock + 1, 5, clock + 1},
		{clock + 1, 0, clock + 1},
		{1, 6, ticks(6)},
		{clock, 6, ticks(6)},
		{ticks(6) - 1, 6, ticks(6)},
		{ticks(6), 6, ticks(6)},
		{ticks(6) + 1, 6, ticks(6) + 1},
		{ticks(7), 6, ticks(7)},
		{ticks(6), 7, ticks(7)},
		{1, api.MostClock, ticks(api.MostClock)},
		{1, api.MostClock + 1, ticks(api.MostClock) + 65536},
		{1, api.MostMillis, lastReading},
		{lastReading, api.MostMillis, lastReading},
		{lastReading + 1, api.MostMillis, lastReading + 1},
		{latest, 0, latest},
		{latest, api.MostMillis, latest},
	} {
		s := begun(t)
		s.proposes(1, prepare(8, 0, 0))
		s.raises(clock, see(clock))
		s.raises(c.want, commit(8, c.stamp, c.ms))
		s.stable(0, c.want, c.want)
	}
}

// A clock that is at a reading's stamp isn't raised by it; one that is 1 below it is.
func TestCommitAroundTheClock(t *testing.T) {
	for _, ms := range []int{1, 2, 65536, api.MostClock, api.MostClock + 1, api.MostMillis} {
		for _, c := range []struct{ clock, want uint64 }{{ticks(ms) - 1, ticks(ms)}, {ticks(ms), ticks(ms)}, {ticks(ms) + 1, ticks(ms) + 1}, {latest, latest}} {
			s := begun(t)
			s.proposes(1, prepare(8, 0, 0))
			s.raises(c.clock, see(c.clock))
			s.raises(c.want, commit(8, 1, ms))
		}
	}
}

// What is no reading is refused ahead of all else, and the transaction stays prepared.
func TestCommitAtWhatIsNoReading(t *testing.T) {
	for _, ms := range noReadings() {
		s := oneOpen(t, 3)
		for _, stamp := range append(moments(), 8, 9, 10, 11, 40, 41) {
			s.refuses(api.ErrArg, commit(3, stamp, ms), commit(4, stamp, ms))
		}
		s.stable(0, 9, 40)
		s.raises(41, commit(3, 41, 0))
		for _, stamp := range moments() {
			s.refuses(api.ErrArg, commit(3, stamp, ms))
		}
	}
}

// Where several errors apply: ErrArg, then ErrNone, then ErrOld.
func TestCommitOfSeveralErrors(t *testing.T) {
	s := oneOpen(t, 3)
	for range 2 {
		s.refuses(api.ErrArg, commit(4, 0, -1), commit(4, 50, -1), commit(3, 0, -1), commit(3, 50, api.MostMillis+1))
		s.refuses(api.ErrNone, commit(4, 0, 0), commit(4, 9, 0), commit(4, 50, 0), commit(4, 0, api.MostMillis))
		s.refuses(api.ErrOld, commit(3, 0, 0), commit(3, 9, api.MostMillis))
	}
	s.raises(40, commit(3, 10, 0))
	s.refuses(api.ErrArg, commit(3, 0, -1), commit(3, 50, highest))
	s.refuses(api.ErrNone, commit(3, 0, 0), commit(3, 9, 0), commit(3, 10, 0))
}

// Each is held against what was proposed to it, not to another one.
func TestCommitOfEachOne(t *testing.T) {
	orders([]uint64{0, 1, 2, 3}, func(l []uint64) {
		s := begun(t)
		for i := range uint64(4) {
			s.proposes(10*i+10, prepare(i, 10*i+9, 0))
		}
		for _, tx := range l {
			s.refuses(api.ErrOld, commit(tx, 10*tx+9, 0))
			s.raises(40, commit(tx, 10*tx+10, 0))
			s.refuses(api.ErrNone, commit(tx, 10*tx+10, 0))
		}
	})
}

// A Commit raises the clock for what is proposed behind it.
func TestCommitAheadOfAPrepare(t *testing.T) {
	s := oneOpen(t, 3)
	s.proposes(41, prepare(4, 0, 0))
	s.raises(90, commit(3, 90, 0))
	s.proposes(91, prepare(3, 0, 0))
	s.raises(ticks(2), commit(4, 41, 2))
	s.proposes(ticks(2)+1, prepare(4, 0, 2))
	s.stable(0, 90, ticks(2)+1)
}
