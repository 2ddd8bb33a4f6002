package part_test

import (
	"testing"

	"confluence/api"
)

// asks asks Stable at the reading 0, which raises nothing; what it answers.
func (w *walker) asks() uint64 {
	w.Helper()
	stamp, e := w.side.Stable(0)
	if e != api.OK {
		w.wrong("Stable(0) has error %d", int(e))
	}
	return stamp
}

// In long runs of any calls Stable doesn't fall, whenever it is asked.
func TestStableNeverFalls(t *testing.T) {
	rises, stays := 0, 0
	longRuns(t, 61, 600, 150, func(w *walker) {
		w.promise = "P16.2"
		told := uint64(0)
		wants := func(is uint64) {
			if is < told {
				w.wrong("Stable answers %d, and answered %d ahead of that", is, told)
			}
			if is > told {
				rises++
			} else {
				stays++
			}
			told = is
		}
		w.behind = func(c call, a answer) {
			if c.name == "Stable" && a.e == api.OK {
				wants(a.stamp)
			}
			wants(w.asks())
		}
	})
	if rises < 5000 || stays < 5000 {
		t.Errorf("P16.2: in long runs Stable rose but %d times, and stayed %d times", rises, stays)
	}
}

// Stable falls by no kind of call: neither by lesser stamps and readings, nor when one is prepared, nor when one is committed as low as may be.
func TestWhatStableDoesByEachCall(t *testing.T) {
	for _, clock := range []uint64{0, 5, 65535, 65536, 1 << 63, lastReading, latest - 3} {
		s := at(t, clock)
		s.promise = "P16.2"
		s.stable(0, clock, clock)
		s.raises(clock, see(0), see(clock/2))
		s.stable(0, clock, clock)
		s.proposes(clock+1, prepare(1, 0, 0))
		s.stable(0, clock, clock+1)
		s.proposes(clock+2, prepare(2, clock/2, 0))
		s.stable(0, clock, clock+2)
		s.raises(clock+2, commit(1, clock+1, 0))
		s.stable(0, clock+1, clock+2)
		s.proposes(clock+3, prepare(1, 0, 0))
		s.raises(clock+3, commit(2, clock+2, 0))
		s.stable(0, clock+2, clock+3)
		s.raises(clock+3, commit(1, clock+3, 0))
		s.stable(0, clock+3, clock+3)
	}
}

// In long runs: each commit is above all that Stable answered ahead of it, be it at the lowest stamp that it may have.
func TestCommitsAreAboveStable(t *testing.T) {
	lowest, above := 0, 0
	longRuns(t, 62, 600, 150, func(w *walker) {
		w.promise = "P16.3"
		told, proposed := uint64(0), map[uint64]uint64{}
		w.behind = func(c call, a answer) {
			switch {
			case a.e != api.OK:
			case c.name == "Prepare":
				proposed[c.tx] = a.stamp
			case c.name == "Commit":
				if c.stamp <= told || c.stamp < proposed[c.tx] {
					w.wrong("it is committed at %d; to it %d was proposed, and Stable answered %d ahead of that", c.stamp, proposed[c.tx], told)
				}
				if c.stamp == proposed[c.tx] {
					lowest++
				} else {
					above++
				}
			case c.name == "Stable":
				told = max(told, a.stamp)
			}
			told = max(told, w.asks())
		}
	})
	if lowest < 5000 || above < 1000 {
		t.Errorf("P16.3: in long runs but %d commits were at what was proposed, and %d above it", lowest, above)
	}
}

// Each one of several that are prepared may be committed at what was proposed, whatever Stable answered: it is above it, in whatever order they come.
func TestTheLowestCommitIsAboveStable(t *testing.T) {
	for _, clock := range []uint64{0, 65534, 1 << 63, latest - 4} {
		orders([]uint64{1, 2, 3, 4}, func(l []uint64) {
			s, told := at(t, clock), clock
			s.promise = "P16.3"
			s.stable(0, clock, clock)
			for i := range uint64(4) {
				s.proposes(clock+i+1, prepare(i+1, 0, 0))
				s.stable(0, clock, clock+i+1)
			}
			for _, tx := range l {
				is, e := s.side.Stable(0)
				if told = max(told, is); e != api.OK || clock+tx <= told {
					s.wrong("%d may be committed at %d, and Stable answered %d", tx, clock+tx, told)
				}
				s.refuses(api.ErrOld, commit(tx, told, 0), commit(tx, clock+tx-1, 0))
				s.raises(clock+4, commit(tx, clock+tx, 0))
			}
		})
	}
}

// In long runs no two proposals are the same, and each is the clock that it leaves.
func TestProposalsAreApart(t *testing.T) {
	made := 0
	longRuns(t, 63, 600, 150, func(w *walker) {
		w.promise = "P16.4"
		proposed := map[uint64]int{}
		w.behind = func(c call, a answer) {
			if c.name != "Prepare" || a.e != api.OK {
				return
			}
			made++
			proposed[a.stamp]++
			if proposed[a.stamp] > 1 {
				w.wrong("%d is proposed again", a.stamp)
			}
			if clock := w.side.Clock(); clock != a.stamp {
				w.wrong("%d is proposed, and the clock is %d", a.stamp, clock)
			}
		}
	})
	if made < 10000 {
		t.Errorf("P16.4: in long runs but %d proposals were made", made)
	}
}

// Neither when the same is asked again and again, nor when one is committed and prepared anew, nor by lesser lows and readings.
func TestTheSameIsNotProposedAgain(t *testing.T) {
	for _, clock := range []uint64{0, 65530, ticks(9), 1 << 63, latest - 12} {
		s := at(t, clock)
		s.promise = "P16.4"
		for i := range uint64(6) {
			s.proposes(clock+2*i+1, prepare(1, clock, 0))
			s.refuses(api.ErrThere, prepare(1, clock, 0))
			s.proposes(clock+2*i+2, prepare(2+i, clock/2, 0))
			s.raises(clock+2*i+2, commit(1, clock+2*i+1, 0))
		}
	}
	s := begun(t)
	s.promise = "P16.4"
	for i := range uint64(6) {
		s.proposes(ticks(7)+i, prepare(i, 0, 7))
	}
	s.proposes(ticks(8), prepare(6, 0, 8))
	s.proposes(ticks(8)+1, prepare(7, 0, 7))
	s.proposes(ticks(8)+2, prepare(8, 0, 8))
}
