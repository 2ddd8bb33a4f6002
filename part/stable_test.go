package part_test

import (
	"slices"
	"testing"

	"confluence/api"
)

// With none prepared it is the clock, which the reading's stamp raises.
func TestStableWithNonePrepared(t *testing.T) {
	for _, clock := range moments() {
		for _, ms := range readings() {
			at(t, clock).stable(ms, max(clock, ticks(ms)), max(clock, ticks(ms)))
		}
	}
	for _, ms := range []int{1, 2, 65536, api.MostClock, api.MostClock + 1, api.MostMillis} {
		at(t, ticks(ms)-1).stable(ms, ticks(ms), ticks(ms))
		at(t, ticks(ms)).stable(ms, ticks(ms), ticks(ms))
		at(t, ticks(ms)+1).stable(ms, ticks(ms)+1, ticks(ms)+1)
		at(t, ticks(ms)-1).stable(ms-1, ticks(ms)-1, ticks(ms)-1)
	}
}

// What is no reading is refused, whatever is prepared, and raises nothing.
func TestStableAtWhatIsNoReading(t *testing.T) {
	for _, clock := range []uint64{0, 9, ticks(7), latest - 1, latest} {
		s := at(t, clock)
		for _, ms := range noReadings() {
			s.refuses(api.ErrArg, stable(ms))
		}
		if clock == latest {
			continue
		}
		s.proposes(clock+1, prepare(1, 0, 0))
		for _, ms := range noReadings() {
			s.refuses(api.ErrArg, stable(ms))
		}
		s.stable(0, clock, clock+1)
	}
}

// With one prepared it is 1 less than what was proposed, whatever the reading and the clock are.
func TestStableWithOnePrepared(t *testing.T) {
	for _, proposed := range []uint64{1, 2, 10, 65535, 65536, 65537, 1 << 63, lastReading, latest - 1, latest} {
		s := begun(t)
		s.proposes(proposed, prepare(5, proposed-1, 0))
		s.stable(0, proposed-1, proposed)
		for _, ms := range readings() {
			s.stable(ms, proposed-1, max(proposed, ticks(ms)))
		}
		s.stable(0, proposed-1, max(proposed, lastReading))
		s.raises(latest, see(latest))
		s.stable(0, proposed-1, latest)
		s.raises(latest, commit(5, proposed, 0))
		s.stable(0, latest, latest)
	}
}

// several are transactions whose numbers are in another order than what was proposed to them.
type several struct {
	*scene
	proposed map[uint64]uint64
}

// severalOpen is a scene of a side that proposed 10, 20 and so on to these.
func severalOpen(t *testing.T, l []uint64) several {
	t.Helper()
	s := several{begun(t), map[uint64]uint64{}}
	for i, tx := range l {
		s.proposed[tx] = 10 * uint64(i+1)
		s.proposes(s.proposed[tx], prepare(tx, s.proposed[tx]-1, 0))
		s.stable(0, 9, s.proposed[tx])
	}
	return s
}

// least is 1 less than the least of what was proposed and is prepared still.
func (s several) least() uint64 {
	var l []uint64
	for _, stamp := range s.proposed {
		l = append(l, stamp)
	}
	return slices.Min(l) - 1
}

// ends commits one as it was proposed.
func (s several) ends(tx, clock uint64) {
	s.Helper()
	s.raises(clock, commit(tx, s.proposed[tx], 0))
	delete(s.proposed, tx)
}

// Of those that are prepared still the least one counts, be it the one that was proposed first, last or in the middle: behind Commits in each order.
func TestStableWithManyPrepared(t *testing.T) {
	l := []uint64{latest, 4, 0, 1 << 40, 7}
	orders(l, func(order []uint64) {
		s := severalOpen(t, l)
		for _, tx := range order[:len(order)-1] {
			s.ends(tx, 50)
			s.stable(0, s.least(), 50)
		}
		s.ends(order[len(order)-1], 50)
		s.stable(0, 50, 50)
	})
}

// The numbers in each order of what was proposed to them.
func TestStableOfNumbersInAnyOrder(t *testing.T) {
	orders([]uint64{0, 1, 2, 3, latest}, func(l []uint64) {
		s := severalOpen(t, l)
		for i := range uint64(4) {
			s.stable(0, s.least(), 50)
			s.ends(i, 50)
		}
		s.stable(0, s.least(), 50)
		s.ends(latest, 50)
		s.stable(0, 50, 50)
	})
}

// Commits that go above what is prepared still don't lift it.
func TestStableBelowWhatWasCommitted(t *testing.T) {
	s := severalOpen(t, []uint64{3, 1, 2})
	s.raises(900, commit(1, 900, 0))
	s.stable(0, 9, 900)
	s.raises(ticks(4), commit(2, 900, 4))
	s.stable(0, 9, ticks(4))
	s.proposes(ticks(4)+1, prepare(1, 0, 0))
	s.stable(0, 9, ticks(4)+1)
	s.raises(ticks(4)+1, commit(3, 10, 0))
	s.stable(0, ticks(4), ticks(4)+1)
	s.raises(latest, commit(1, latest, 0))
	s.stable(0, latest, latest)
}

// Again and again, with readings that go back and forth.
func TestStableAgainAndAgain(t *testing.T) {
	s, clock := severalOpen(t, []uint64{6, 5}), uint64(20)
	for _, ms := range []int{0, 2, 1, 2, 0, 3, 3, 9, 8, 7} {
		clock = max(clock, ticks(ms))
		s.stable(ms, 9, clock)
	}
	s.ends(6, clock)
	for _, ms := range []int{9, 0, 10, 9, 12} {
		clock = max(clock, ticks(ms))
		s.stable(ms, 19, clock)
	}
	s.ends(5, clock)
	for _, ms := range []int{12, 0, 13, 12, 15} {
		clock = max(clock, ticks(ms))
		s.stable(ms, clock, clock)
	}
}

// A thousand that are prepared at once, committed in any order.
func TestStableWithAThousandPrepared(t *testing.T) {
	var left []uint64
	n, s := numbers(31), begun(t)
	for i := range uint64(1000) {
		s.proposes(i+1, prepare(i*0x9e3779b97f4a7c15, 0, 0))
		left = append(left, i)
	}
	for len(left) > 0 {
		s.makes(stable(0), answer{left[0], api.OK}, 1000)
		i := n.below(min(len(left), 1+n.below(40)))
		s.raises(1000, commit(left[i]*0x9e3779b97f4a7c15, left[i]+1, 0))
		left = slices.Delete(left, i, i+1)
	}
	s.stable(0, 1000, 1000)
}

// A refused call lifts nothing.
func TestStableBehindWhatWasRefused(t *testing.T) {
	s := severalOpen(t, []uint64{1, 2})
	s.refuses(api.ErrThere, prepare(1, 50, 9), prepare(2, 50, 9))
	s.refuses(api.ErrOld, commit(1, 9, 9), commit(2, 19, 9))
	s.refuses(api.ErrNone, commit(3, 50, 9))
	s.refuses(api.ErrArg, commit(1, 10, -1), stable(-1), prepare(4, 0, -1))
	s.refuses(api.ErrClock, prepare(4, latest, 0))
	s.stable(0, 9, 20)
}
