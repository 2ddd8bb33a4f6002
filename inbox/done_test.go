package inbox_test

import (
	"slices"
	"testing"

	"confluence/api"
)

// Of each place ahead of the first and behind the last, of those that weren't handed out and those that are applied; at the least and the greatest number.
func TestDoneOfNone(t *testing.T) {
	for _, first := range beginnings() {
		states(4, func(came, out, applied int) {
			s := held(t, first, came, out, applied)
			for _, at := range around(first, first+came) {
				if at < first+applied || at >= first+out {
					s.finish(api.ErrNone, at, at)
				}
			}
			s.wantHeld(first, came, out, applied)
		})
	}
}

// What came has to be handed out first, by Next and not by Peek.
func TestDoneAheadOfNext(t *testing.T) {
	s := begun(t, 5)
	s.finish(api.ErrNone, 5)
	s.put(api.OK, 5, of(5))
	s.finish(api.ErrNone, 5)
	s.peek(of(5))
	s.finish(api.ErrNone, 5)
	s.want(5, 0)
	s.next(5, of(5))
	s.finish(api.OK, 5)
	s.want(6, 0)
}

// Again of the same one, ahead of Applied and behind it.
func TestDoneAgain(t *testing.T) {
	s := held(t, 3, 5, 4, 0)
	for _, at := range []int{5, 4, 6, 3} {
		s.finish(api.OK, at)
		s.finish(api.ErrNone, at, at, 7, 2)
	}
	s.want(7, 0)
	s.finish(api.ErrNone, 3, 4, 5, 6, 7)
	s.next(7, of(7))
	s.finish(api.OK, 7)
	s.finish(api.ErrNone, 7)
	s.want(8, 0)
}

// wantAppliedBy finishes these places, and wants that Applied goes on over all that are.
func wantAppliedBy(s *scene, first int, places []int) {
	s.Helper()
	for i, at := range places {
		s.finish(api.OK, at)
		applied := first
		for slices.Contains(places[:i+1], applied) {
			applied++
		}
		s.want(applied, 0)
		for _, old := range places[:i+1] {
			s.finish(api.ErrNone, old)
		}
	}
}

// All orders of a few that were handed out, with none behind them, with some that came and with some that were handed out.
func TestDoneInAnyOrderOfAFew(t *testing.T) {
	for _, first := range []int{0, 4, farthest} {
		for _, more := range [][2]int{{0, 0}, {2, 0}, {2, 2}} {
			var places []int
			for i := range 6 {
				places = append(places, first+i)
			}
			orders(places, func(places []int) {
				s := held(t, first, 6+more[0], 6+more[1], 0)
				wantAppliedBy(s, first, places)
				s.wantHeld(first, 6+more[0], 6+more[1], 6)
			})
		}
	}
}

// Many in any order, from the last to the first too.
func TestDoneInAnyOrderOfMany(t *testing.T) {
	n := numbers(31)
	for run := range 12 {
		var places []int
		for i := range 150 {
			places = append(places, 9+i)
		}
		if run > 0 {
			places = shuffled(&n, places)
		} else {
			slices.Reverse(places)
		}
		s := held(t, 9, 155, 152, 0)
		wantAppliedBy(s, 9, places)
		s.wantHeld(9, 155, 152, 150)
	}
}

// Handed out and applied by turns: those that are out needn't be applied for others to be handed out.
func TestDoneBetweenNexts(t *testing.T) {
	s := held(t, 0, 10, 3, 0)
	s.finish(api.OK, 1)
	s.next(3, of(3))
	s.finish(api.OK, 3)
	s.want(0, 0)
	s.finish(api.OK, 0)
	s.want(2, 0)
	s.next(4, of(4), of(5))
	s.finish(api.OK, 5, 2)
	s.want(4, 0)
	s.finish(api.ErrNone, 6, 5, 3)
	s.finish(api.OK, 4)
	s.want(6, 0)
	s.wantHeld(0, 10, 6, 6)
}
