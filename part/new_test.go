package part_test

import (
	"testing"

	"confluence/api"
)

// The chapter's example.
func TestExample(t *testing.T) {
	s := begun(t)
	s.proposes(6, prepare(1, 5, 0))
	s.stable(0, 5, 6)
	s.proposes(7, prepare(2, 0, 0))
	s.raises(9, commit(1, 9, 0))
	s.stable(0, 6, 9)
	s.raises(9, commit(2, 9, 0))
	s.stable(0, 9, 9)
	s.want(0, 9)
}

// A side that was just made has proposed nothing, and its clock is 0.
func TestNew(t *testing.T) {
	s := begun(t)
	s.want(0, 0)
	s.stable(0, 0, 0)
	s.want(0, 0)
}

// Each call as the first one of a side.
func TestFirstCalls(t *testing.T) {
	for _, tx := range txs() {
		for _, stamp := range moments() {
			begun(t).refuses(api.ErrNone, commit(tx, stamp, 0), commit(tx, stamp, 3), commit(tx, stamp, api.MostMillis))
			if stamp == latest {
				begun(t).refuses(api.ErrClock, prepare(tx, stamp, 0), prepare(tx, stamp, api.MostMillis))
			} else {
				begun(t).proposes(stamp+1, prepare(tx, stamp, 0))
			}
		}
		for _, ms := range readings()[1:] {
			begun(t).proposes(ticks(ms), prepare(tx, 0, ms))
		}
		for _, ms := range noReadings() {
			begun(t).refuses(api.ErrArg, prepare(tx, 0, ms), commit(tx, 0, ms))
		}
	}
	for _, stamp := range moments() {
		begun(t).raises(stamp, see(stamp))
	}
	for _, ms := range readings() {
		begun(t).stable(ms, ticks(ms), ticks(ms))
	}
	for _, ms := range noReadings() {
		begun(t).refuses(api.ErrArg, stable(ms))
	}
}
