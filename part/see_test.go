package part_test

import (
	"testing"

	"confluence/api"
)

// A stamp of 0, below the clock, at it, above it, and the greatest one.
func TestSee(t *testing.T) {
	for _, clock := range moments() {
		s := at(t, clock)
		s.raises(clock, see(0), see(clock/2), see(clock-min(clock, 1)), see(clock))
		s.stable(0, clock, clock)
		if clock < latest {
			s.raises(clock+1, see(clock+1), see(clock), see(0))
		}
		for _, stamp := range moments() {
			at(t, clock).raises(max(clock, stamp), see(stamp))
		}
		s.raises(latest, see(latest), see(latest-1), see(0), see(latest))
		s.stable(0, latest, latest)
	}
}

// What is prepared stays as it was proposed, whatever is seen.
func TestSeeBesideWhatIsPrepared(t *testing.T) {
	for _, stamp := range moments() {
		s := begun(t)
		s.proposes(6, prepare(1, 5, 0))
		s.proposes(9, prepare(2, 8, 0))
		s.raises(max(9, stamp), see(stamp), see(stamp), see(0))
		s.stable(0, 5, max(9, stamp))
		s.refuses(api.ErrThere, prepare(1, 0, 0), prepare(2, 0, 0))
		s.refuses(api.ErrOld, commit(1, 5, 0), commit(2, 8, 0))
		s.raises(max(9, stamp), commit(1, 6, 0))
		s.stable(0, 8, max(9, stamp))
		s.raises(max(9, stamp), commit(2, 9, 0))
		s.stable(0, max(9, stamp), max(9, stamp))
	}
}

// What is seen is what the next proposal is above.
func TestSeeAheadOfAPrepare(t *testing.T) {
	for _, stamp := range moments()[:len(moments())-1] {
		at(t, stamp).proposes(stamp+1, prepare(1, 0, 0))
		at(t, stamp).proposes(max(stamp+1, ticks(9)), prepare(1, 0, 9))
	}
}
