package order_test

import (
	"testing"

	"confluence/api"
)

// Below, at and above the bound, and to both ends, where nothing waits: all that is seen of it is what is old.
func TestReleaseWhereNothingWaits(t *testing.T) {
	for _, bound := range moments() {
		for _, time := range append(moments(), bound-1, bound+1) {
			s := made(t)
			s.release(bound, 0)
			s.release(time, 0)
			s.want(0)
			greater := max(bound, time)
			s.decide(api.ErrOld, rec(greater, 0, 1), rec(0, 0, 1))
			if greater < latest {
				s.decide(api.OK, rec(greater+1, 0, 1))
				s.wantWaiting(nil, []api.Rec{rec(greater+1, 0, 1)})
			}
		}
	}
}

// Of commits that wait nothing, some and all come: those whose TS is up to the time.
func TestReleaseOfSome(t *testing.T) {
	l := times(2, 3, 5, 9, 65536, 1<<63-1, 1<<63, latest-1, latest)
	n := numbers(31)
	for upTo := range l {
		for _, time := range []uint64{l[upTo].TS - 1, l[upTo].TS, l[upTo].TS + 1} {
			count := 0
			for _, r := range l {
				if r.TS <= time {
					count++
				}
			}
			s := made(t, n.shuffled(l)...)
			s.release(time, count)
			s.want(len(l)-count, l[:count]...)
			s.release(time, 0)
			s.release(0, 0)
			s.wantWaiting(l[:count], l[count:])
		}
	}
}

func TestReleaseToBothEnds(t *testing.T) {
	s := made(t, times(7, 1, latest, 3)...)
	s.release(0, 0)
	s.want(4)
	s.release(latest, 4)
	s.want(0, times(1, 3, 7, latest)...)
	s.release(0, 0)
	s.release(latest, 0)
	s.want(0, times(1, 3, 7, latest)...)
}

// Step by step, each counts those that it makes stable alone.
func TestReleaseStepByStep(t *testing.T) {
	s := made(t, times(4, 9, 2, 7, 3)...)
	for _, c := range []struct {
		time          uint64
		count, stable int
	}{{1, 0, 0}, {2, 1, 1}, {2, 0, 1}, {4, 2, 3}, {3, 0, 3}, {6, 0, 3}, {8, 1, 4}, {1, 0, 4}, {9, 1, 5}, {latest, 0, 5}} {
		s.release(c.time, c.count)
		s.want(5-c.stable, times(2, 3, 4, 7, 9)[:c.stable]...)
	}
}

// A time below the bound leaves the bound where it is, with nothing that waits and with some.
func TestReleaseBelowTheBound(t *testing.T) {
	for _, below := range []uint64{0, 1, 6, 7} {
		s := made(t, times(3, 9)...)
		s.release(7, 1)
		s.release(below, 0)
		s.decide(api.ErrOld, times(7, 6, 1, 0, 3)...)
		s.decide(api.OK, times(8)...)
		s.release(below, 0)
		s.want(2, times(3)...)
		s.release(8, 1)
		s.wantWaiting(times(3, 8), times(9))
	}
}

// Several of one TS are told apart by DC, then by Tx; they come all at once, in that order.
func TestReleaseOfOneTime(t *testing.T) {
	byDC := []api.Rec{rec(6, lowest, 9), rec(6, -2, 8), rec(6, -1, 7), rec(6, 0, 6), rec(6, 1, 5), rec(6, 3, 4), rec(6, 1<<32, 3), rec(6, highest, 2)}
	byTx := []api.Rec{rec(6, 2, lowest), rec(6, 2, -2), rec(6, 2, -1), rec(6, 2, 0), rec(6, 2, 1), rec(6, 2, 9), rec(6, 2, 10), rec(6, 2, 1<<32), rec(6, 2, highest)}
	byBoth := []api.Rec{rec(6, -1, 5), rec(6, -1, 7), rec(6, 0, -3), rec(6, 0, 4), rec(6, 0, 5), rec(6, 1, -9), rec(6, 1, 2)}
	n := numbers(32)
	for _, l := range [][]api.Rec{byDC, byTx, byBoth} {
		for range 50 {
			s := made(t, n.shuffled(l)...)
			s.release(5, 0)
			s.want(len(l))
			s.release(6, len(l))
			s.want(0, l...)
			s.decide(api.ErrOld, l...)
		}
	}
}

// TS counts ahead of DC, and DC ahead of Tx, whatever the others are.
func TestReleaseInTheOrderOfMarks(t *testing.T) {
	l := []api.Rec{rec(3, 3, 99), rec(4, 0, 1), rec(4, 0, 2), rec(4, 1, 0), rec(4, 3, 98), rec(5, -1, 1), rec(5, 0, -9)}
	for i := range l {
		for k := range l[:i] {
			s := made(t, l[i], l[k])
			s.release(9, 2)
			s.want(0, l[k], l[i])
		}
	}
	n := numbers(33)
	s := made(t, n.shuffled(l)...)
	s.release(3, 1)
	s.want(6, l[:1]...)
	s.release(4, 4)
	s.want(2, l[:5]...)
	s.release(5, 2)
	s.want(0, l...)
}

// What is decided behind a release stands behind what it made stable, ahead of what waits or behind it.
func TestDecideBehindARelease(t *testing.T) {
	s := made(t, rec(5, 1, 1), rec(9, 1, 2), rec(20, 1, 3))
	s.release(5, 1)
	s.decide(api.OK, rec(6, 1, 4), rec(9, 0, 5), rec(9, 2, 6), rec(30, 0, 7))
	s.want(6, rec(5, 1, 1))
	s.release(9, 4)
	stable := []api.Rec{rec(5, 1, 1), rec(6, 1, 4), rec(9, 0, 5), rec(9, 1, 2), rec(9, 2, 6)}
	s.want(2, stable...)
	s.decide(api.OK, rec(10, 0, 8))
	s.decide(api.ErrOld, rec(9, 3, 9))
	s.wantWaiting(stable, []api.Rec{rec(10, 0, 8), rec(20, 1, 3), rec(30, 0, 7)})
}

// Each commit is told with its own versions, of which a log looks at none.
func TestReleaseKeepsTheVersions(t *testing.T) {
	l := []api.Rec{sized(0, 2, 0, 1), writing(rec(3, 0, 1), strange()...), sized(8, 4, 0, 1), writing(rec(4, 0, 2), api.Ver{Key: "k", TS: 1}), writing(rec(4, 1, 1), api.Ver{Key: "k", TS: latest, DC: -1}), sized(api.MostVers, 5, 0, 1)}
	n := numbers(34)
	for range 20 {
		made(t, n.shuffled(l)...).wantWaiting(nil, l)
	}
}
