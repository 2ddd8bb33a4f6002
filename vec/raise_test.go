package vec_test

import (
	"testing"

	"confluence/vec"
)

func TestRaiseOfMembers(t *testing.T) {
	v := vector(3, in(10), in(20), in(30), in(latest))
	for dc, time := range v.T {
		for _, to := range append(moments(), time-1, time, time+1) {
			want := v
			if to > time {
				want.T[dc] = to
			}
			wantRaise(t, v, dc, to, want)
		}
	}
}

func TestRaiseAtTheEdges(t *testing.T) {
	for _, epoch := range epochs() {
		for dc := range 4 {
			for _, rest := range []vec.Vec{vector(epoch, out(0), out(0), out(0), out(0)), vector(epoch, in(7), in(0), in(7), in(latest))} {
				for _, time := range moments() {
					v := with(rest, dc, in(time))
					wantRaise(t, v, dc, 0, v)
					wantRaise(t, v, dc, time, v)
					wantRaise(t, v, dc, latest, with(rest, dc, in(latest)))
					if time > 0 {
						wantRaise(t, v, dc, time-1, v)
					}
					if time < latest {
						wantRaise(t, v, dc, time+1, with(rest, dc, in(time+1)))
					}
				}
			}
		}
	}
}

// Of who is no member nothing is raised, and no member comes of it.
func TestRaiseOfOthers(t *testing.T) {
	for _, v := range plainOnes(2, 0, 5, latest) {
		for dc, is := range v.Has {
			if is {
				continue
			}
			for _, to := range moments() {
				wantRaise(t, v, dc, to, v)
			}
		}
	}
}

func TestRaiseOfNoDatacenter(t *testing.T) {
	for _, v := range plainOnes(2, 0, 5, latest) {
		for _, dc := range noDCs() {
			for _, to := range []uint64{0, 6, latest} {
				wantRaise(t, v, dc, to, v)
			}
		}
	}
}

// A vector that isn't plain is made so, whoever is raised, or nobody.
func TestRaiseMakesPlain(t *testing.T) {
	v := vector(2, in(5), out(3), out(latest), in(1))
	wantRaise(t, v, 0, 9, vector(2, in(9), out(0), out(0), in(1)))
	wantRaise(t, v, 0, 4, vector(2, in(5), out(0), out(0), in(1)))
	wantRaise(t, v, 3, 1, vector(2, in(5), out(0), out(0), in(1)))
	wantRaise(t, v, 3, latest, vector(2, in(5), out(0), out(0), in(latest)))
	for _, dc := range append(noDCs(), 1, 2) {
		for _, to := range []uint64{0, 1, 2, 3, 4, latest} {
			wantRaise(t, v, dc, to, vector(2, in(5), out(0), out(0), in(1)))
		}
	}
	none := vector(8, out(1), out(2), out(3), out(4))
	for dc := range 4 {
		wantRaise(t, none, dc, 9, vector(8))
	}
}
