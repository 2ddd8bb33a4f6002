package inbox_test

import (
	"testing"

	"confluence/api"
)

// Of none: of a new box, of one whose commits were all handed out, of one whose commits are all applied.
func TestNextOfNone(t *testing.T) {
	for _, first := range beginnings() {
		for came := range 4 {
			for applied := range came + 1 {
				s := held(t, first, came, came, applied)
				s.none()
				s.none()
				s.wantHeld(first, came, came, applied)
			}
		}
	}
}

// What was refused is none that came.
func TestNextOfWhatWasRefused(t *testing.T) {
	s := begun(t, 3)
	s.refuse(api.ErrNone, 4)
	s.refuse(api.ErrOld, 2)
	s.none()
	s.put(api.OK, 3, of(3))
	s.refuse(api.ErrOld, 3)
	s.refuse(api.ErrNone, 5)
	s.next(3, of(3))
	s.none()
}

// Of each that came: its place and itself, in order.
func TestNextTellsPlaceAndCommit(t *testing.T) {
	for _, first := range beginnings() {
		for _, count := range []int{1, 2, 3, 7, 50} {
			s := held(t, first, count, 0, 0)
			for i := range count {
				s.peek(of(first + i))
				s.next(first+i, of(first+i))
				s.want(first, 0)
			}
			s.none()
		}
	}
}

// By Peek nothing is handed out, however often it is asked; nor by Applied and Got.
func TestPeekHandsNothingOut(t *testing.T) {
	states(4, func(came, out, applied int) {
		s := held(t, 2, came, out, applied)
		for range 5 {
			if out == came {
				s.none()
			} else {
				s.peek(of(2 + out))
			}
			for at := 2 + out; at <= 2+came; at++ {
				s.finish(api.ErrNone, at)
			}
			s.want(2+applied, 0)
		}
		s.wantHeld(2, came, out, applied)
	})
}

// What comes behind, what is applied and hearts change nothing of what is the first.
func TestPeekStaysTheSame(t *testing.T) {
	s := held(t, 4, 3, 2, 0)
	s.peek(of(6))
	s.put(api.OK, 7, of(7))
	s.peek(of(6))
	s.refuse(api.ErrOld, 6)
	s.refuse(api.ErrNone, 9)
	s.peek(of(6))
	s.finish(api.OK, 5, 4)
	s.peek(of(6))
	s.heart(40, 6)
	s.heart(50, 8)
	s.peek(of(6))
	s.next(6, of(6))
	s.peek(of(7))
	s.next(7, of(7))
	s.none()
}

// Put and Next by turns, so many at a time.
func TestNextByTurns(t *testing.T) {
	for _, more := range []int{1, 2, 3, 10} {
		s := begun(t, 5)
		came, out := 5, 5
		for came < 5+60*more {
			s.put(api.OK, came, from(came, more)...)
			came += more
			for out < came-more/2 {
				s.peek(of(out))
				s.next(out, of(out))
				out++
			}
		}
		s.next(out, from(out, came-out)...)
		s.none()
		s.want(5, 0)
	}
}
