// Package hlc is layer 1: see shared/doc/01-hlc.md.
package hlc

import (
	"cmp"

	"confluence/api"
)

const (
	// logicBits is how many of a stamp's lower bits are its logical part.
	logicBits = 16
	lastStamp = 1<<64 - 1
)

// Pack puts a stamp together.
func Pack(ms, logic int) (uint64, api.Errno) {
	if !isReading(ms) || logic < 0 || logic > api.MostLogic {
		return 0, api.ErrArg
	}
	return stampOf(ms) | uint64(logic), api.OK
}

// Split takes a stamp apart.
func Split(t uint64) (int, int) {
	return int(t >> logicBits), int(t & api.MostLogic)
}

// Send is the stamp of what happens next.
func Send(t uint64, ms int) (uint64, api.Errno) {
	if !isReading(ms) {
		return 0, api.ErrArg
	}
	if reading := stampOf(ms); reading > t {
		return reading, api.OK
	}
	if t == lastStamp {
		return 0, api.ErrClock
	}
	return t + 1, api.OK
}

// Recv is the stamp of what happens when got comes.
func Recv(t, got uint64, ms int) (uint64, api.Errno) {
	return Send(max(t, got), ms)
}

// Raise is the stamp, not below the clock's reading.
func Raise(t uint64, ms int) (uint64, api.Errno) {
	if !isReading(ms) {
		return 0, api.ErrArg
	}
	return max(t, stampOf(ms)), api.OK
}

// Cmp is -1, 0, 1: is a ahead of b, the same, behind it?
func Cmp(a, b api.Mark) int {
	return cmp.Or(cmp.Compare(a.TS, b.TS), cmp.Compare(a.DC, b.DC), cmp.Compare(a.Tx, b.Tx))
}

// Of is a version's mark.
func Of(v api.Ver) api.Mark {
	return api.Mark{TS: v.TS, DC: v.DC, Tx: v.Tx}
}

// Last is the place of the greatest mark, the first of several; -1 of none.
func Last(l []api.Mark) int {
	last := -1
	for i, m := range l {
		if last < 0 || Cmp(m, l[last]) > 0 {
			last = i
		}
	}
	return last
}

func isReading(ms int) bool { return ms >= 0 && ms <= api.MostMillis }

// stampOf is a reading's stamp. What is no reading would run over the upper end.
func stampOf(ms int) uint64 { return uint64(ms) << logicBits }
