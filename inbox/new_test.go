package inbox_test

import (
	"testing"

	"confluence/api"
)

// The chapter's example.
func TestExample(t *testing.T) {
	s := begun(t, 3)
	s.put(api.ErrNone, 4, of(4))
	s.put(api.OK, 3, of(3))
	s.heart(50, 4)
	s.want(3, 0)
	s.next(3, of(3))
	s.want(3, 0)
	s.finish(api.OK, 3)
	s.want(4, 50)
}

// wantFirst wants of a box that was just made that its first place is this one.
func wantFirst(s *scene, first int) {
	s.Helper()
	s.want(first, 0)
	s.none()
	s.finish(api.ErrNone, around(first, first)...)
	for _, at := range around(first, first) {
		if at < first {
			s.refuse(api.ErrOld, at)
		} else if at > first {
			s.refuse(api.ErrNone, at)
		}
	}
	s.none()
	s.want(first, 0)
	s.wantHeld(first, 0, 0, 0)
}

// Below 0: at 0.
func TestNewBelowNought(t *testing.T) {
	for _, at := range []int{-1, -2, -3, -4096, -1 << 32, lowest + 1, lowest} {
		wantFirst(begun(t, at), 0)
	}
}

func TestNewFromNoughtOn(t *testing.T) {
	for _, at := range append(beginnings(), 2, 5, 4095, 4097, 1<<31-1) {
		wantFirst(begun(t, at), at)
	}
}

// What is ahead of the first place counts as applied: a heart of its commits alone is reached at once.
func TestNewHasWhatIsAheadOfItsFirst(t *testing.T) {
	for _, at := range beginnings() {
		s := begun(t, at)
		s.heart(70, at+1)
		s.want(at, 0)
		s.heart(50, at)
		s.want(at, 50)
		s.heart(60, at-1)
		s.want(at, 60)
	}
}
