package inbox_test

import (
	"fmt"
	"testing"

	"confluence/api"
	"confluence/inbox"
)

// A nil box takes nothing and has nothing, whatever it was handed ahead of that.
func TestNilBox(t *testing.T) {
	s := &scene{T: t, promise: "P14.1: of a nil box"}
	for range 2 {
		for _, at := range around(0, 4) {
			s.finish(api.ErrArg, at)
			for _, r := range anyCommits() {
				s.put(api.ErrArg, at, r)
			}
			for _, time := range moments() {
				s.heart(time, at)
			}
			s.none()
			s.want(0, 0)
		}
	}
}

// calling makes each call of a box with these arguments, with others in between.
func calling(b *inbox.Box, at int, r api.Rec, time uint64) {
	b.Done(at)
	b.Heart(time, at)
	b.Put(at, r)
	b.Peek()
	b.Next()
	b.Put(at, r)
	b.Done(at)
	b.Put(b.Applied(), r)
	b.Heart(time, b.Applied()+1)
	b.Next()
	b.Done(b.Applied())
	b.Put(at, r)
	b.Done(at)
	b.Peek()
	b.Next()
	b.Got()
}

func TestNothingPanics(t *testing.T) {
	what := ""
	defer func() {
		if thrown := recover(); thrown != nil {
			t.Errorf("R1: a call with %s panics: %v", what, thrown)
		}
	}()
	commits := []api.Rec{{}, writing(of(5), strange()...), sized(40, latest, highest, lowest)}
	for _, at := range append(around(0, 6), around(farthest, farthest)...) {
		for _, r := range commits {
			for _, time := range moments() {
				what = fmt.Sprintf("place %d, %s, time %d", at, quoted(r), time)
				boxes := []*inbox.Box{nil, inbox.New(at), inbox.New(0), inbox.New(farthest), held(t, 2, 4, 3, 1).box, held(t, 0, 4, 4, 4).box}
				for _, b := range boxes {
					calling(b, at, r, time)
				}
			}
		}
	}
}

// Of a box above 2^60 nothing is promised but that its calls end; it may come to the end of the numbers.
func TestNothingPanicsAtTheEndOfTheNumbers(t *testing.T) {
	defer func() {
		if thrown := recover(); thrown != nil {
			t.Errorf("R1: a call of a box at the end of the numbers panics: %v", thrown)
		}
	}()
	for _, at := range []int{farthest + 1, highest - 2, highest - 1, highest} {
		for _, other := range around(0, 6) {
			b := inbox.New(at)
			for i := range 8 {
				b.Put(at+i, of(i))
				b.Next()
				b.Done(at + i)
				b.Heart(uint64(i), at+i)
				calling(b, other, of(i), latest)
			}
		}
	}
}
