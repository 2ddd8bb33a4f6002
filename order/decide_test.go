package order_test

import (
	"fmt"
	"testing"

	"confluence/api"
)

// A new log has nothing, and its bound is 0.
func TestNew(t *testing.T) {
	made(t).want(0)
	for _, time := range moments() {
		s := made(t)
		s.release(time, 0)
		s.want(0)
	}
}

// The chapter's example.
func TestExample(t *testing.T) {
	s := made(t, rec(9, 0, 1), rec(4, 0, 2))
	s.want(2)
	s.release(5, 1)
	s.want(1, rec(4, 0, 2))
	s.decide(api.ErrOld, rec(5, 0, 3))
	s.wantWaiting([]api.Rec{rec(4, 0, 2)}, []api.Rec{rec(9, 0, 1)})
}

// Of each bound: TS below it, at it and above it.
func TestDecideAroundTheBound(t *testing.T) {
	for _, bound := range moments() {
		for _, near := range []uint64{bound - 2, bound - 1, bound, bound + 1, bound + 2} {
			for _, ts := range append(moments(), near) {
				s := made(t)
				s.release(bound, 0)
				if ts <= bound {
					s.decide(api.ErrOld, rec(ts, 0, 1), rec(ts, 0, 1), rec(ts, highest, highest))
					s.wantWaiting(nil, nil)
				} else {
					s.decide(api.OK, rec(ts, 0, 1))
					s.wantWaiting(nil, []api.Rec{rec(ts, 0, 1)})
				}
			}
		}
	}
}

// Where the bound is 0, a commit of TS 0 is old, a new log's too; DC, Tx and versions don't matter.
func TestDecideOfTimeNought(t *testing.T) {
	for _, n := range ends() {
		s := made(t)
		s.decide(api.ErrOld, rec(0, n, 1), rec(0, 0, n), api.Rec{DC: n}, api.Rec{Tx: n}, writing(rec(0, n, n), strange()...))
		s.decide(api.ErrOld, api.Rec{}, api.Rec{})
		s.want(0)
		s.decide(api.OK, rec(1, n, 1))
		s.release(0, 0)
		s.decide(api.ErrOld, rec(0, n, 1))
		s.wantWaiting(nil, []api.Rec{rec(1, n, 1)})
	}
}

// Behind the greatest bound nothing is decided any more.
func TestDecideBehindTheGreatestTime(t *testing.T) {
	s := made(t, rec(latest, 0, 1))
	s.release(latest-1, 0)
	s.decide(api.OK, rec(latest, 0, 2))
	s.release(latest, 2)
	for _, r := range anyCommits() {
		s.decide(api.ErrOld, r)
	}
	s.want(0, rec(latest, 0, 1), rec(latest, 0, 2))
}

// A mark that waits already, with the same versions and with others: the one that came first is the one that waits.
func TestDecideOfAMarkThatWaits(t *testing.T) {
	for _, r := range []api.Rec{sized(0, 5, 0, 1), sized(1, 5, 0, 1), sized(3, 5, 0, 1), rec(latest, -1, highest), writing(rec(1, 2, 3), strange()...)} {
		s := made(t, r)
		s.decide(api.ErrThere, r, writing(r), r, writing(r, append(written(1, 9, 9, 9), r.Vers...)...), writing(r, api.Ver{}), writing(r, api.Ver{Key: "other", TS: 5}))
		s.wantWaiting(nil, []api.Rec{r})
	}
}

// It waits wherever its mark stands among the others, ahead of a release and behind one.
func TestDecideOfEachThatWaits(t *testing.T) {
	l := []api.Rec{rec(3, 0, 1), rec(5, -1, 1), rec(5, 0, 1), rec(5, 0, 2), rec(5, 1, 0), rec(8, 0, 1), rec(latest, 0, 0)}
	r := numbers(21)
	for bound, stable := range map[uint64]int{0: 0, 2: 0, 3: 1, 4: 1, 5: 5, 7: 5, 8: 6, latest - 1: 6, latest: 7} {
		s := made(t, r.shuffled(l)...)
		s.release(bound, stable)
		for i, own := range l {
			want := api.ErrThere
			if i < stable {
				want = api.ErrOld
			}
			s.decide(want, own, writing(own), writing(own, strange()...))
		}
		s.wantWaiting(l[:stable], l[stable:])
	}
}

// Marks that differ in one part alone, or in more of them, are marks of their own; from the least number to the greatest.
func TestDecideOfMarksThatDiffer(t *testing.T) {
	var l []api.Rec
	for _, ts := range []uint64{1, 2, 65536, 1<<63 - 1, 1 << 63, latest} {
		for _, dc := range []int{lowest, -1, 0, 1, 1 << 32, highest} {
			for _, tx := range []int{lowest, -1, 0, 1, 1 << 32, highest} {
				l = append(l, rec(ts, dc, tx))
			}
		}
	}
	for i, a := range l {
		for k, b := range l {
			s := made(t, a)
			if i == k {
				s.decide(api.ErrThere, b)
				s.wantWaiting(nil, []api.Rec{a})
			} else {
				s.decide(api.OK, b)
				s.wantWaiting(nil, []api.Rec{l[min(i, k)], l[max(i, k)]})
			}
		}
	}
	n := numbers(22)
	s := made(t, n.shuffled(l)...)
	s.decide(api.ErrThere, n.shuffled(l)...)
	s.wantWaiting(nil, l)
}

// What was released and is decided again is old, not there; its bound is told ahead of all else, with one that waits beside it too.
func TestOldIsToldAheadOfThere(t *testing.T) {
	s := made(t, rec(5, 0, 1), rec(5, 0, 2), rec(9, 0, 3))
	s.decide(api.ErrThere, rec(5, 0, 1))
	s.release(4, 0)
	s.decide(api.ErrThere, rec(5, 0, 1))
	s.release(5, 2)
	for range 3 {
		s.decide(api.ErrOld, rec(5, 0, 1), rec(5, 0, 2), rec(5, 0, 3), sized(4, 5, 0, 1))
		s.decide(api.ErrThere, rec(9, 0, 3))
	}
	s.release(9, 1)
	s.decide(api.ErrOld, rec(9, 0, 3), rec(5, 0, 1))
	s.want(0, rec(5, 0, 1), rec(5, 0, 2), rec(9, 0, 3))
}

// Many wait; how many may is said nowhere.
func TestDecideOfMany(t *testing.T) {
	var l []api.Rec
	for i := range 3 * api.MostQueue {
		l = append(l, rec(uint64(1+i/3), i%3, i))
	}
	n := numbers(23)
	for name, own := range map[string][]api.Rec{"rising": l, "in any order": n.shuffled(l)} {
		s := made(t, own...)
		s.decide(api.ErrThere, l[0], l[len(l)/2], l[len(l)-1])
		s.promise = fmt.Sprint("P13.1: of many, ", name)
		s.wantWaiting(nil, l)
	}
}
