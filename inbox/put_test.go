package inbox_test

import (
	"testing"

	"confluence/api"
)

// states calls with how many came, how many of them were handed out, and how many of these are applied.
func states(most int, each func(came, out, applied int)) {
	for came := range most + 1 {
		for out := range came + 1 {
			for applied := range out + 1 {
				each(came, out, applied)
			}
		}
	}
}

// At each place ahead of the first, at those that came, at the next one and behind it; at the least and the greatest number.
func TestPutAtEachPlace(t *testing.T) {
	for _, first := range beginnings() {
		states(4, func(came, out, applied int) {
			s := held(t, first, came, out, applied)
			for _, at := range around(first, first+came) {
				switch {
				case at < first+came:
					s.refuse(api.ErrOld, at)
				case at > first+came:
					s.refuse(api.ErrNone, at)
				}
			}
			s.wantHeld(first, came, out, applied)
		})
	}
}

// Below 0 all is old, where the first place is 0 too.
func TestPutBelowNought(t *testing.T) {
	for _, first := range []int{lowest, -5, 0, 1, farthest} {
		s := begun(t, first)
		for _, at := range []int{-1, -2, -5, -4096, -1 << 32, lowest + 1, lowest} {
			s.refuse(api.ErrOld, at)
		}
		s.want(max(first, 0), 0)
		s.none()
	}
}

// A commit that came for a place is the one that counts, whatever comes for it behind that.
func TestPutOfAnotherCommitForOnePlace(t *testing.T) {
	others := []api.Rec{of(6), {}, writing(of(5)), writing(of(5), strange()...), sized(3, 22, 2, 5), sized(3, 22, 1, 6)}
	s := begun(t, 5)
	s.put(api.OK, 5, of(5), of(6))
	refused := func() {
		for _, r := range others {
			s.put(api.ErrOld, 5, r)
			s.put(api.ErrOld, 6, r)
		}
	}
	refused()
	s.peek(of(5))
	s.next(5, of(5))
	refused()
	s.peek(of(6))
	s.next(6, of(6))
	refused()
	s.none()
	s.finish(api.OK, 6)
	refused()
	s.finish(api.OK, 5)
	refused()
	s.none()
	s.want(7, 0)
}

// A commit that was refused may come again, when it is its turn.
func TestPutAgainWhenItIsItsTurn(t *testing.T) {
	s := begun(t, 2)
	for at := 5; at > 2; at-- {
		s.put(api.ErrNone, at, of(at))
	}
	for at := 2; at <= 5; at++ {
		s.put(api.OK, at, of(at))
	}
	s.next(2, from(2, 4)...)
	s.none()
}

// Commits of any marks and versions, the same one for several places too.
func TestPutOfAnyCommit(t *testing.T) {
	s := begun(t, 0)
	s.put(api.OK, 0, anyCommits()...)
	count := len(anyCommits())
	s.put(api.OK, count, of(9), of(9), of(9))
	s.next(0, anyCommits()...)
	s.next(count, of(9), of(9), of(9))
	s.none()
}

// full is a scene of a box from a place on that has all it takes.
func full(t *testing.T, first, out int) *scene {
	t.Helper()
	s := held(t, first, api.MostQueue-1, out, 0)
	s.put(api.OK, first+api.MostQueue-1, of(first+api.MostQueue-1))
	return s
}

// wantFull wants that no commit is taken for any place, and which error is told first: what came already and what is ahead of its turn is told as ever.
func wantFull(s *scene, first, next int) {
	s.Helper()
	for range 2 {
		s.refuse(api.ErrFull, next)
		for _, at := range []int{lowest, -1, first - 1, first, next - api.MostQueue, next - 2, next - 1} {
			s.refuse(api.ErrOld, at)
		}
		for _, at := range []int{next + 1, next + 2, next + api.MostQueue, highest - 1, highest} {
			s.refuse(api.ErrNone, at)
		}
	}
}

// With 4095 one more is taken, with 4096 none, be they handed out or not.
func TestPutOfAsManyAsMayBe(t *testing.T) {
	for _, first := range []int{0, 3, farthest} {
		for _, out := range []int{0, 1, 2000, api.MostQueue - 1} {
			s := full(t, first, out)
			wantFull(s, first, first+api.MostQueue)
			s.wantHeld(first, api.MostQueue, out, 0)
		}
	}
}

// Each Done by which Applied goes on makes room for as many as it goes on.
func TestDoneMakesRoom(t *testing.T) {
	s := full(t, 3, 0)
	next := 3 + api.MostQueue
	s.next(3, from(3, 6)...)
	wantFull(s, 3, next)
	s.finish(api.OK, 3)
	s.put(api.OK, next, of(next))
	wantFull(s, 3, next+1)
	s.finish(api.OK, 6, 7, 5)
	wantFull(s, 3, next+1)
	s.finish(api.OK, 4)
	s.put(api.OK, next+1, from(next+1, 4)...)
	wantFull(s, 3, next+5)
	s.want(8, 0)
	s.next(9, from(9, next+5-9)...)
	s.none()
	wantFull(s, 3, next+5)
}

// With all but the first one applied there is no room; behind the first one's Done there is room for as many as at the beginning.
func TestPutBehindOneThatIsNotApplied(t *testing.T) {
	s := full(t, 0, api.MostQueue-1)
	s.next(api.MostQueue-1, of(api.MostQueue-1))
	for at := api.MostQueue - 1; at > 0; at-- {
		s.finish(api.OK, at)
	}
	s.want(0, 0)
	wantFull(s, 0, api.MostQueue)
	s.finish(api.OK, 0)
	s.want(api.MostQueue, 0)
	s.put(api.OK, api.MostQueue, from(api.MostQueue, api.MostQueue)...)
	wantFull(s, 0, 2*api.MostQueue)
	s.wantHeld(0, 2*api.MostQueue, api.MostQueue, api.MostQueue)
}

// As long as they are applied there is room for any number.
func TestPutGoesOn(t *testing.T) {
	s := begun(t, 0)
	for at := range 3 * api.MostQueue {
		s.put(api.OK, at, of(at))
		s.next(at, of(at))
		s.finish(api.OK, at)
	}
	s.wantHeld(0, 3*api.MostQueue, 3*api.MostQueue, 3*api.MostQueue)
}
