package vec_test

import (
	"testing"

	"confluence/vec"
)

func TestChaptersExamples(t *testing.T) {
	v := vec.Raise(vec.Raise(vec.New(4, who(0, 1)), 0, 5), 1, 3)
	wantVec(t, "P11.1", v, vector(4, in(5), in(3)), func() string { return "New, raised twice," })
	wantLeast(t, v, 3)
	raised := vec.Raise(v, 1, 9)
	wantVec(t, "P11.1", raised, vector(4, in(5), in(9)), func() string { return "Raise(.., 1, 9)" })
	wantLeast(t, raised, 5)
	smaller, _ := vec.Resize(v, 5, who(0))
	wantResize(t, v, 5, who(0), vector(5, in(5)))
	wantLeast(t, smaller, 5)
	greater, _ := vec.Resize(v, 5, who(0, 1, 2))
	wantResize(t, v, 5, who(0, 1, 2), vector(5, in(5), in(3), in(0)))
	wantLeast(t, greater, 0)
}

func TestNew(t *testing.T) {
	for _, epoch := range epochs() {
		wantNew(t, epoch, who(), vec.Vec{Epoch: epoch})
		wantNew(t, epoch, who(0), vector(epoch, in(0)))
		wantNew(t, epoch, who(1), vector(epoch, out(0), in(0)))
		wantNew(t, epoch, who(2), vector(epoch, out(0), out(0), in(0)))
		wantNew(t, epoch, who(3), vector(epoch, out(0), out(0), out(0), in(0)))
		wantNew(t, epoch, who(0, 1, 2, 3), vector(epoch, in(0), in(0), in(0), in(0)))
		for _, has := range allMembers() {
			wantNew(t, epoch, has, vec.Vec{Epoch: epoch, Has: has})
		}
	}
}

func TestPlainOfPlainOnes(t *testing.T) {
	for _, epoch := range epochs() {
		for _, v := range plainOnes(epoch, 0, 1, 7, latest) {
			wantPlain(t, v, v)
		}
	}
}

func TestPlainOfOthers(t *testing.T) {
	for _, epoch := range epochs() {
		wantPlain(t, vector(epoch, in(5), out(3)), vector(epoch, in(5)))
		wantPlain(t, vector(epoch, out(5), in(3), out(latest), out(1)), vector(epoch, out(0), in(3)))
		wantPlain(t, vector(epoch, out(1), out(2), out(3), out(latest)), vec.Vec{Epoch: epoch})
		wantPlain(t, vector(epoch, in(0), in(0), in(latest), out(1)), vector(epoch, in(0), in(0), in(latest)))
	}
	for _, has := range allMembers() {
		for _, time := range moments() {
			v, want := vec.Vec{Epoch: 6, Has: has}, vec.Vec{Epoch: 6, Has: has}
			for dc, is := range has {
				v.T[dc] = time
				if is {
					want.T[dc] = time
				}
			}
			wantPlain(t, v, want)
			wantPlain(t, want, want)
		}
	}
}

// All but Least and Leq answer plain ones, of any vectors.
func TestAnswersArePlain(t *testing.T) {
	r := numbers(11)
	for range 20000 {
		a, b := anyVector(&r), anyVector(&r)
		resized, _ := vec.Resize(a, a.Epoch+1, anyMembers(&r))
		for _, c := range []struct {
			name string
			got  vec.Vec
		}{
			{"New", vec.New(a.Epoch, a.Has)},
			{"Plain", vec.Plain(a)},
			{"Raise", vec.Raise(a, r.below(7)-1, anyTime(&r))},
			{"Resize", resized},
			{"Merge", vec.Merge(a, b)},
		} {
			if !isPlain(c.got) {
				t.Errorf("P11.1: %s of %s (and %s) is %s, which isn't plain", c.name, told(a), told(b), told(c.got))
			}
		}
	}
}
