package inbox_test

import (
	"fmt"
	"testing"

	"confluence/api"
)

// A heart of a count that isn't above Applied is reached at once, one below 0 too; of one above it nothing is told until Applied comes to its count.
func TestHeartOfEachCount(t *testing.T) {
	for _, first := range []int{0, 3, farthest} {
		states(3, func(came, out, applied int) {
			for _, count := range around(first, first+came) {
				s := held(t, first, came, out, applied)
				s.heart(50, count)
				wantReached(s, first, came, out, applied, count)
			}
		})
	}
}

// wantReached applies all that came, one by one, and wants that Got is 50 from there on where this count is reached.
func wantReached(s *scene, first, came, out, applied, count int) {
	s.Helper()
	got := func(at int) uint64 {
		if count <= at {
			return 50
		}
		return 0
	}
	s.want(first+applied, got(first+applied))
	s.next(first+out, from(first+out, came-out)...)
	for at := first + applied; at < first+came; at++ {
		s.want(at, got(at))
		s.finish(api.OK, at)
	}
	s.want(first+came, got(first+came))
}

// Each time, with a count that is reached and with one that comes to be.
func TestHeartOfEachTime(t *testing.T) {
	for _, time := range moments() {
		s := held(t, 3, 2, 2, 1)
		s.heart(time, 4)
		s.want(4, time)
		s = held(t, 3, 2, 2, 1)
		s.heart(time, 5)
		s.want(4, 0)
		s.finish(api.OK, 4)
		s.want(5, time)
	}
}

// Of each two times: the greater one, whichever count says it and in whichever order they come.
func TestGotIsTheGreatestTime(t *testing.T) {
	for _, one := range moments() {
		for _, other := range moments() {
			s := held(t, 3, 2, 2, 1)
			s.heart(one, 4)
			s.heart(other, 4)
			s.want(4, max(one, other))
			s = held(t, 3, 2, 2, 1)
			s.heart(one, 2)
			s.heart(other, -1)
			s.want(4, max(one, other))
			s = held(t, 3, 2, 2, 1)
			s.heart(one, 4)
			s.heart(other, 5)
			s.want(4, one)
			s.finish(api.OK, 4)
			s.want(5, max(one, other))
		}
	}
}

// Two hearts of one count that isn't reached yet, with unlike times in both orders, and with the same time.
func TestHeartsOfOneCount(t *testing.T) {
	for _, one := range moments() {
		for _, other := range moments() {
			s := held(t, 3, 2, 2, 0)
			s.heart(one, 5)
			s.heart(other, 5)
			s.want(3, 0)
			s.finish(api.OK, 3)
			s.want(4, 0)
			s.finish(api.OK, 4)
			s.want(5, max(one, other))
		}
	}
}

// Hearts of all times and of counts ahead of Applied, at it and behind it, in any order.
func TestHeartsInAnyOrder(t *testing.T) {
	for _, l := range [][]heart{
		{{10, 3}, {20, 4}, {30, 5}, {40, 6}, {50, 7}},
		{{50, 3}, {40, 4}, {30, 5}, {20, 6}, {10, 7}},
		{{20, 4}, {10, 4}, {30, 4}, {25, 5}, {35, 5}},
		{{0, 4}, {latest, 6}, {7, 5}, {latest, 5}, {0, 2}},
	} {
		orders(l, func(l []heart) {
			s := held(t, 3, 3, 3, 0)
			for _, h := range l {
				s.heart(h.upto, h.count)
			}
			for applied := 3; applied <= 6; applied++ {
				got := uint64(0)
				for _, h := range l {
					if h.count <= applied {
						got = max(got, h.upto)
					}
				}
				s.want(applied, got)
				s.finish(condition(applied < 6), applied)
			}
		})
	}
}

// condition is the error of Done where there is one to be applied, or none.
func condition(there bool) api.Errno {
	if there {
		return api.OK
	}
	return api.ErrNone
}

// One Done by which Applied goes on over many reaches all their hearts; those behind it are reached later.
func TestManyHeartsThatAreReachedByOneDone(t *testing.T) {
	for _, greatest := range []int{1, 2, 25, 49, 50} {
		s := held(t, 0, 60, 60, 0)
		for count := 1; count <= 60; count++ {
			upto := uint64(100 - count)
			if count == greatest {
				upto = 500
			}
			if count > 50 {
				upto = uint64(600 + count)
			}
			s.heart(upto, count)
		}
		for at := 49; at > 0; at-- {
			s.finish(api.OK, at)
			s.want(0, 0)
		}
		s.finish(api.OK, 0)
		s.want(50, 500)
		for at := 50; at < 60; at++ {
			s.finish(api.OK, at)
			s.want(at+1, uint64(600+at+1))
		}
	}
}

// What is handed out out of its turn, applied out of its turn or refused reaches no heart.
func TestHeartsAreReachedByAppliedAlone(t *testing.T) {
	s := begun(t, 3)
	s.heart(50, 4)
	s.heart(60, 5)
	s.heart(70, 6)
	s.put(api.OK, 3, from(3, 3)...)
	s.want(3, 0)
	s.peek(of(3))
	s.next(3, from(3, 3)...)
	s.want(3, 0)
	s.finish(api.ErrNone, 2, 6, lowest, highest)
	s.finish(api.OK, 4)
	s.want(3, 0)
	s.finish(api.ErrNone, 4)
	s.want(3, 0)
	s.finish(api.OK, 3)
	s.want(5, 60)
	s.finish(api.OK, 5)
	s.want(6, 70)
}

// By a heart nothing comes, nothing is handed out and nothing is applied.
func TestHeartBringsNothing(t *testing.T) {
	states(4, func(came, out, applied int) {
		for _, upto := range []uint64{0, 50, latest} {
			s := held(t, 3, came, out, applied)
			for _, count := range around(3, 3+came) {
				if count <= 3+applied || count > 3+came+1 {
					s.heart(upto, count)
				}
			}
			s.wantHeld(3, came, out, applied)
		}
	})
}

// A heart that is far behind stays, whatever is reached meanwhile, and counts when Applied comes to it.
func TestHeartsFarBehindStay(t *testing.T) {
	s := begun(t, 0)
	s.heart(5000, 300)
	s.heart(4000, 200)
	s.heart(latest, highest)
	s.heart(latest, 301)
	for at := range 300 {
		s.put(api.OK, at, of(at))
		s.next(at, of(at))
		s.heart(uint64(at), at+1)
		s.finish(api.OK, at)
		switch {
		case at+1 == 300:
			s.want(at+1, 5000)
		case at+1 >= 200:
			s.want(at+1, 4000)
		default:
			s.want(at+1, uint64(at))
		}
	}
}

// A lesser time behind a greater one, a lesser count behind a greater one: what was said stays.
func TestLateHearts(t *testing.T) {
	s := held(t, 0, 4, 4, 2)
	s.heart(40, 2)
	for i, upto := range []uint64{39, 1, 0, 40} {
		for _, count := range []int{lowest, -1, 0, 1, 2, 3} {
			s.heart(upto, count)
			s.promise = fmt.Sprint("P14.1: late heart ", i)
			s.want(2, 40)
		}
	}
	s.finish(api.OK, 2)
	s.want(3, 40)
	s.heart(60, 4)
	s.heart(50, 3)
	s.want(3, 50)
	s.finish(api.OK, 3)
	s.want(4, 60)
}

// As many hearts as a box takes commits, in any order.
func TestVeryManyHearts(t *testing.T) {
	n := numbers(41)
	s := held(t, 0, api.MostQueue, api.MostQueue, 0)
	var counts []int
	for count := range api.MostQueue + 1 {
		counts = append(counts, count)
	}
	for _, count := range shuffled(&n, counts) {
		s.heart(uint64(1000+count), count)
	}
	s.want(0, 1000)
	for at := range 2000 {
		s.finish(api.OK, at)
		s.want(at+1, uint64(1001+at))
	}
	for at := api.MostQueue - 1; at >= 2000; at-- {
		s.want(2000, 3000)
		s.finish(api.OK, at)
	}
	s.want(api.MostQueue, 1000+api.MostQueue)
}
