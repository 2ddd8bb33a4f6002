package part_test

import (
	"testing"

	"confluence/api"
)

// A low of 0, below the clock, at it, above it, and the greatest one; the reading says nothing.
func TestPrepareOfALow(t *testing.T) {
	for _, clock := range []uint64{0, 1, 7, 65534, 65535, 65536, 1 << 40, 1<<63 - 1, 1 << 63, lastReading, latest - 2} {
		for _, low := range []uint64{0, clock / 2, clock - min(clock, 1), clock} {
			at(t, clock).proposes(clock+1, prepare(1, low, 0))
		}
		for _, low := range []uint64{clock + 1, clock + 1 + (latest-2-clock)/2, latest - 1} {
			at(t, clock).proposes(low+1, prepare(1, low, 0))
		}
		at(t, clock).refuses(api.ErrClock, prepare(1, latest, 0))
	}
}

// A reading below the clock's, at it and above it, with lows around both.
func TestPrepareAtAReading(t *testing.T) {
	clock := ticks(5) + 3
	for _, c := range []struct {
		low  uint64
		ms   int
		want uint64
	}{
		{0, 0, clock + 1},
		{0, 4, clock + 1},
		{0, 5, clock + 1},
		{clock - 1, 5, clock + 1},
		{clock, 5, clock + 1},
		{clock + 1, 5, clock + 2},
		{0, 6, ticks(6)},
		{clock, 6, ticks(6)},
		{ticks(6) - 1, 6, ticks(6)},
		{ticks(6), 6, ticks(6) + 1},
		{ticks(6) + 1, 6, ticks(6) + 2},
		{ticks(7), 6, ticks(7) + 1},
		{0, 7, ticks(7)},
		{0, 65536, ticks(65536)},
		{0, api.MostClock, ticks(api.MostClock)},
		{0, api.MostClock + 1, ticks(api.MostClock) + 65536},
		{ticks(api.MostClock), api.MostClock, ticks(api.MostClock) + 1},
		{ticks(api.MostClock), api.MostClock + 1, ticks(api.MostClock) + 65536},
		{ticks(api.MostClock) + 65536, api.MostClock + 1, ticks(api.MostClock) + 65537},
		{0, api.MostMillis, lastReading},
		{lastReading - 1, api.MostMillis, lastReading},
		{lastReading, api.MostMillis, lastReading + 1},
		{latest - 1, api.MostMillis, latest},
	} {
		at(t, clock).proposes(c.want, prepare(1, c.low, c.ms))
	}
}

// At the clock's own reading, one above it, and with a logical part that is full.
func TestPrepareAroundTheClock(t *testing.T) {
	for _, ms := range []int{1, 2, 65536, api.MostClock, api.MostClock + 1, api.MostMillis - 1} {
		at(t, ticks(ms)-1).proposes(ticks(ms), prepare(1, 0, ms))
		at(t, ticks(ms)-1).proposes(ticks(ms), prepare(1, 0, ms-1))
		at(t, ticks(ms)-1).proposes(ticks(ms)+65536, prepare(1, 0, ms+1))
		at(t, ticks(ms)).proposes(ticks(ms)+1, prepare(1, 0, ms))
		at(t, ticks(ms)).proposes(ticks(ms)+65536, prepare(1, 0, ms+1))
		at(t, ticks(ms)+65535).proposes(ticks(ms)+65536, prepare(1, 0, ms))
		at(t, ticks(ms)+65535).proposes(ticks(ms)+65536, prepare(1, 0, ms+1))
		at(t, ticks(ms)+65536).proposes(ticks(ms)+65537, prepare(1, 0, ms+1))
	}
}

// Transactions of all numbers are apart from one another, and a number says nothing of what is proposed.
func TestPrepareOfAllNumbers(t *testing.T) {
	s := begun(t)
	for i, tx := range txs() {
		s.proposes(uint64(i)+1, prepare(tx, 0, 0))
		for _, other := range txs()[:i+1] {
			s.refuses(api.ErrThere, prepare(other, 0, 0))
		}
		for _, other := range txs()[i+1:] {
			s.refuses(api.ErrNone, commit(other, latest, 0))
		}
	}
	s.stable(0, 0, uint64(len(txs())))
	for i, tx := range txs() {
		s.refuses(api.ErrOld, commit(tx, uint64(i), 0))
		s.raises(uint64(len(txs())), commit(tx, uint64(i)+1, 0))
	}
	s.stable(0, uint64(len(txs())), uint64(len(txs())))
}

// Each proposal is above the ones ahead of it, with readings that go back and forth.
func TestPrepareOfManyInARow(t *testing.T) {
	s, clock := begun(t), uint64(0)
	for i, ms := range []int{0, 0, 3, 3, 1, 0, 4, 2, 4, 4, 9, 8, 10, 0, 11} {
		clock = max(clock+1, ticks(ms))
		s.proposes(clock, prepare(uint64(i), 0, ms))
		clock++
		s.proposes(clock, prepare(uint64(100+i), clock-1, ms))
		clock += 5
		s.proposes(clock, prepare(uint64(200+i), clock-1, ms))
	}
}

// What is prepared isn't prepared again, whatever else is wrong with the call, and what was proposed stays.
func TestPrepareOfWhatIsPrepared(t *testing.T) {
	for _, tx := range txs() {
		s := begun(t)
		s.proposes(8, prepare(tx, 7, 0))
		for range 2 {
			for _, low := range moments() {
				for _, ms := range append(readings(), noReadings()...) {
					s.refuses(api.ErrThere, prepare(tx, low, ms))
				}
			}
			s.stable(0, 7, s.side.Clock())
			s.raises(ticks(1), see(ticks(1)))
		}
		s.refuses(api.ErrOld, commit(tx, 7, 0))
		s.raises(ticks(1), commit(tx, 8, 0))
	}
}

// What was committed may be prepared anew, and what was proposed ahead of that doesn't count any more.
func TestPrepareOfWhatWasCommitted(t *testing.T) {
	for _, tx := range txs() {
		s := begun(t)
		s.proposes(6, prepare(tx, 5, 0))
		s.raises(6, commit(tx, 6, 0))
		s.proposes(7, prepare(tx, 0, 0))
		s.refuses(api.ErrThere, prepare(tx, 0, 0))
		s.refuses(api.ErrOld, commit(tx, 6, 0))
		s.stable(0, 6, 7)
		s.raises(20, commit(tx, 20, 0))
		s.refuses(api.ErrNone, commit(tx, 20, 0))
		s.stable(0, 20, 20)
		s.proposes(ticks(2), prepare(tx, 3, 2))
		s.stable(3, ticks(2)-1, ticks(3))
	}
}

// With a clock at its end nothing is proposed any more, whichever call brought it there.
func TestPrepareAtTheEndOfTheClock(t *testing.T) {
	ends := map[string]func() *scene{
		"See": func() *scene { return at(t, latest) },
		"Commit": func() *scene {
			s := begun(t)
			s.proposes(1, prepare(7, 0, 0))
			s.raises(latest, commit(7, latest, 0))
			return s
		},
		"Prepare": func() *scene {
			s := begun(t)
			s.proposes(latest, prepare(7, latest-1, 0))
			return s
		},
	}
	for _, end := range ends {
		s := end()
		for _, low := range moments() {
			for _, ms := range readings() {
				s.refuses(api.ErrClock, prepare(1, low, ms))
			}
			for _, ms := range noReadings() {
				s.refuses(api.ErrArg, prepare(1, low, ms))
			}
		}
		s.refuses(api.ErrNone, commit(1, latest, 0))
	}
	s := ends["Prepare"]()
	s.refuses(api.ErrThere, prepare(7, 0, 0), prepare(7, latest, 0), prepare(7, 0, -1))
	s.stable(0, latest-1, latest)
	s.refuses(api.ErrOld, commit(7, latest-1, 0))
	s.raises(latest, commit(7, latest, api.MostMillis))
	s.stable(0, latest, latest)
	s.refuses(api.ErrClock, prepare(7, 0, 0))
}

// One ahead of its end a clock proposes once more.
func TestPrepareAheadOfTheEndOfTheClock(t *testing.T) {
	for _, low := range []uint64{0, lastReading, latest - 1} {
		for _, ms := range readings() {
			s := at(t, latest-1)
			s.refuses(api.ErrClock, prepare(1, latest, ms))
			s.proposes(latest, prepare(1, low, ms))
			s.refuses(api.ErrClock, prepare(2, low, ms))
		}
	}
}

// What is no reading is refused ahead of a clock at its end, and behind what is prepared.
func TestPrepareOfSeveralErrors(t *testing.T) {
	for _, clock := range []uint64{0, 9, ticks(3), lastReading, latest - 1} {
		for _, ms := range noReadings() {
			s := at(t, clock)
			for _, low := range moments() {
				s.refuses(api.ErrArg, prepare(4, low, ms))
			}
			s.proposes(clock+1, prepare(4, 0, 0))
			for _, low := range moments() {
				s.refuses(api.ErrThere, prepare(4, low, ms))
				s.refuses(api.ErrArg, prepare(5, low, ms))
			}
			s.refuses(api.ErrThere, prepare(4, latest, 0), prepare(4, latest, api.MostMillis))
			s.refuses(api.ErrClock, prepare(5, latest, 0), prepare(5, latest, api.MostMillis))
		}
	}
}

// A Prepare that was refused leaves nothing prepared.
func TestRefusedPrepareLeavesNothing(t *testing.T) {
	s := at(t, 9)
	s.refuses(api.ErrArg, prepare(3, 0, -1), prepare(3, 50, api.MostMillis+1))
	s.refuses(api.ErrClock, prepare(3, latest, 0))
	s.refuses(api.ErrNone, commit(3, latest, 0))
	s.stable(0, 9, 9)
	s.proposes(10, prepare(3, 0, 0))
	s.stable(0, 9, 10)
}
