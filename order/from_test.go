package order_test

import (
	"fmt"
	"testing"

	"confluence/api"
	"confluence/order"
)

// row is a scene of a log with so many stable commits, these, and two that wait.
func row(t *testing.T, count int) (*scene, []api.Rec) {
	t.Helper()
	var l []api.Rec
	for i := range count {
		l = append(l, sized(i%4, uint64(3+i/2), i%2, 9*i))
	}
	s := made(t, append(l, rec(1<<40, 0, 1), rec(1<<41, 0, 1))...)
	s.release(1<<39, count)
	s.want(2, l...)
	return s, l
}

// From a place below 0, at 0, within, the last, at Len and beyond.
func TestFromEachPlace(t *testing.T) {
	for _, count := range []int{0, 1, 2, 3, 7, 50} {
		s, l := row(t, count)
		for _, at := range anyPlaces(count) {
			first := min(max(at, 0), count)
			wantTold(t, "P13.1", fmt.Sprintf("From(%d) of %d", at, count), s.log.From(at), first, l[first:])
		}
		s.want(2, l...)
	}
}

// What waits isn't told.
func TestFromOfWhatWaits(t *testing.T) {
	s := made(t, times(5, 3, latest)...)
	for _, at := range anyPlaces(3) {
		wantTold(t, "P13.1", fmt.Sprintf("From(%d) of none that is stable", at), s.log.From(at), 0, nil)
	}
	s.release(3, 1)
	s.want(2, times(3)...)
}

// Left at once, behind the first, midway and behind the last; then ranged over again.
func TestFromLeftEarlyAndRangedAgain(t *testing.T) {
	for _, count := range []int{1, 2, 3, 9} {
		s, l := row(t, count)
		for _, at := range []int{lowest, -1, 0, 1, count / 2, count - 1, count, highest} {
			first := min(max(at, 0), count)
			commits := s.log.From(at)
			for left := 1; left <= count-first+1; left++ {
				wantLeft(t, commits, at, left, first, l)
			}
			for range 2 {
				wantTold(t, "R7", fmt.Sprintf("From(%d), ranged over again,", at), commits, first, l[first:])
			}
		}
		s.want(2, l...)
	}
}

// wantLeft ranges over commits, leaves behind so many, and wants what was told until then.
func wantLeft(t *testing.T, commits func(func(int, api.Rec) bool), at, left, first int, l []api.Rec) {
	t.Helper()
	count := 0
	for i, r := range commits {
		if i != first+count || i >= len(l) || !isSame(r, l[i]) {
			t.Errorf("R7: From(%d), to be left behind %d, tells %s at place %d", at, left, quoted(r), i)
		}
		count++
		if count == left {
			break
		}
	}
	wantAnswer(t, "R7", fmt.Sprintf("From(%d), left behind %d: how many it told", at, left), count, min(left, len(l)-first))
}

// Behind the answer that it is to be left, nothing is told any more.
func TestFromTellsNothingWhenLeft(t *testing.T) {
	s, l := row(t, 9)
	for at := range l {
		for left := range len(l) - at {
			count := 0
			s.log.From(at)(func(int, api.Rec) bool {
				count++
				return count <= left
			})
			wantAnswer(t, "R7", fmt.Sprintf("how many From(%d) tells, left behind %d,", at, left+1), count, left+1)
		}
	}
}

// Ranged over within itself and within another one, with other calls that ask in the midst.
func TestFromWithinFrom(t *testing.T) {
	s, l := row(t, 7)
	commits := s.log.From(2)
	count := 0
	for i, r := range commits {
		wantTold(t, "R7", "From(2) within itself", commits, 2, l[2:])
		wantTold(t, "R7", fmt.Sprintf("From(%d) within From(2)", i), s.log.From(i), i, l[i:])
		wantAnswer(t, "R7", "Len within From(2)", s.log.Len(), 7)
		wantAnswer(t, "R7", "Waiting within From(2)", s.log.Waiting(), 2)
		if i != 2+count || !isSame(r, l[i]) {
			t.Errorf("R7: From(2), with From within it, tells %s at place %d", quoted(r), i)
		}
		count++
	}
	wantAnswer(t, "R7", "how many From(2) tells, with From within it,", count, 5)
}

// What one log tells is decided by another one.
func TestFromIntoAnotherLog(t *testing.T) {
	s, l := row(t, 9)
	other := &scene{T: t, log: order.New(), promise: "P13.1"}
	for _, r := range s.log.From(3) {
		other.decide(api.OK, r)
	}
	s.want(2, l...)
	other.wantWaiting(nil, l[3:])
}
