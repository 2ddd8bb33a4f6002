package vec_test

import (
	"testing"

	"confluence/vec"
)

// handed is all that calls are handed here, in one piece of memory.
type handed struct {
	a, b vec.Vec
	has  members
}

// answered is all that calls answer of it.
type answered struct {
	made, plain, raised, resized, merged vec.Vec
	e                                    int
	least                                uint64
	there, leq, geq                      bool
}

func (h *handed) calls(dc int, to uint64) answered {
	var all answered
	all.made = vec.New(h.a.Epoch, h.has)
	all.plain = vec.Plain(h.a)
	all.raised = vec.Raise(h.a, dc, to)
	all.least, all.there = vec.Least(h.a)
	resized, e := vec.Resize(h.a, h.b.Epoch, h.has)
	all.resized, all.e = resized, int(e)
	all.merged = vec.Merge(h.a, h.b)
	all.leq, all.geq = vec.Leq(h.a, h.b), vec.Leq(h.b, h.a)
	return all
}

// spoilt is another vector in each place.
func spoilt(v *vec.Vec) {
	v.Epoch++
	for dc := range v.Has {
		v.Has[dc] = !v.Has[dc]
		v.T[dc]++
	}
}

func (a *answered) spoil() {
	for _, v := range []*vec.Vec{&a.made, &a.plain, &a.raised, &a.resized, &a.merged} {
		spoilt(v)
	}
}

// What is handed in stays as it is, also when answers are changed; other answers stay too.
func TestWhatIsHandedInStays(t *testing.T) {
	r := numbers(41)
	for range 20000 {
		h := handed{anyVector(&r), anyVector(&r), anyMembers(&r)}
		was, dc, to := h, r.below(6)-1, anyTime(&r)
		got := h.calls(dc, to)
		if h != was {
			t.Fatalf("R3: calls with %s and %s made %s and %s of them", told(was.a), told(was.b), told(h.a), told(h.b))
		}
		again := h.calls(dc, to)
		want := again
		got.spoil()
		if h != was || again != want {
			t.Fatalf("R3: of %s and %s, an answer that is changed changes others", told(was.a), told(was.b))
		}
	}
}

// What was answered stays when what was handed in is changed.
func TestWhatIsAnsweredStays(t *testing.T) {
	r := numbers(42)
	for range 20000 {
		h := handed{anyVector(&r), anyVector(&r), anyMembers(&r)}
		other, dc, to := h, r.below(6)-1, anyTime(&r)
		got := h.calls(dc, to)
		want := got
		spoilt(&h.a)
		spoilt(&h.b)
		h.has = members{}
		h.calls(dc, to)
		if got != want {
			t.Fatalf("R3: with %s and %s changed, what was answered changes", told(other.a), told(other.b))
		}
		if again := other.calls(dc, to); again != want {
			t.Fatalf("R2: calls with %s and %s answer otherwise behind other calls", told(other.a), told(other.b))
		}
	}
}

// Beside an error and beside a false there are noughts, whatever stands in what is handed in.
func TestNoughtsBesideErrorAndFalse(t *testing.T) {
	for _, has := range allMembers() {
		for _, time := range moments() {
			v := vector(6, in(time), out(time), in(time), out(time))
			for _, epoch := range []int{6, 5, 0, -6, lowest} {
				wantTooOld(t, v, epoch, has)
			}
			for _, epoch := range epochs() {
				none := vector(epoch, out(time), out(time), out(time), out(time))
				if least, there := vec.Least(none); least != 0 || there {
					t.Errorf("R5: Least of %s is %d, %t", told(none), least, there)
				}
			}
		}
	}
}

func TestNothingPanics(t *testing.T) {
	var v vec.Vec
	dc, to := 0, uint64(0)
	defer func() {
		if thrown := recover(); thrown != nil {
			t.Errorf("R1: a call with %s, %d, %d panics: %v", told(v), dc, to, thrown)
		}
	}()
	for _, epoch := range epochs() {
		for _, v = range unplainOnes(epoch, 0, latest) {
			h := handed{v, vector(0, in(1), out(latest), in(latest)), v.Has}
			back := handed{h.b, h.a, h.has}
			for _, dc = range append(noDCs(), 0, 1, 2, 3) {
				for _, to = range []uint64{0, 1, latest} {
					h.calls(dc, to)
					back.calls(dc, to)
				}
			}
		}
	}
}
