package vec_test

import "testing"

func TestLeastOfNoMembers(t *testing.T) {
	for _, epoch := range epochs() {
		wantNoLeast(t, vector(epoch))
		wantNoLeast(t, vector(epoch, out(1), out(2), out(3), out(4)))
		wantNoLeast(t, vector(epoch, out(latest), out(latest), out(latest), out(latest)))
		wantNoLeast(t, vector(epoch, out(0), out(0), out(0), out(1)))
	}
}

func TestLeastOfOneMember(t *testing.T) {
	for _, epoch := range epochs() {
		for dc := range 4 {
			for _, time := range moments() {
				wantLeast(t, with(vector(epoch), dc, in(time)), time)
				for _, other := range []uint64{0, 1, time - 1, time, time + 1, latest} {
					wantLeast(t, with(vector(epoch, out(other), out(other), out(other), out(other)), dc, in(time)), time)
				}
			}
		}
	}
}

func TestLeastOfAll(t *testing.T) {
	for dc := range 4 {
		wantLeast(t, with(vector(1, in(7), in(7), in(7), in(7)), dc, in(6)), 6)
		wantLeast(t, with(vector(1, in(7), in(8), in(9), in(10)), dc, in(0)), 0)
		wantLeast(t, with(vector(1, in(10), in(9), in(8), in(9)), dc, in(5)), 5)
		wantLeast(t, with(vector(1, in(latest), in(latest), in(latest), in(latest)), dc, in(latest-1)), latest-1)
		wantLeast(t, with(vector(1, in(1<<63), in(1<<63), in(1<<63), in(1<<63)), dc, in(1<<63-1)), 1<<63-1)
		wantLeast(t, with(vector(1, in(7), in(7), in(7), in(7)), dc, in(8)), 7)
	}
	wantLeast(t, vector(1, in(0), in(0), in(0), in(0)), 0)
	wantLeast(t, vector(1, in(latest), in(latest), in(latest), in(latest)), latest)
}

func TestLeastOfTwoAlike(t *testing.T) {
	for one := range 4 {
		for other := range one {
			v := with(with(vector(1, in(9), in(8), in(latest), in(7)), one, in(4)), other, in(4))
			wantLeast(t, v, 4)
			wantLeast(t, with(v, one, in(3)), 3)
			wantLeast(t, with(v, other, in(3)), 3)
			wantLeast(t, with(v, one, in(5)), 4)
			wantLeast(t, with(v, one, out(4)), 4)
			wantLeast(t, with(v, one, out(1)), 4)
			wantLeast(t, with(v, one, out(0)), 4)
		}
	}
}

// Those that are no members have lesser times, which don't count.
func TestLeastWithoutOthers(t *testing.T) {
	for _, v := range unplainOnes(1, 1, 3, latest) {
		least, count := uint64(latest), 0
		for dc, is := range v.Has {
			if is {
				count++
				least = min(least, v.T[dc])
			}
		}
		if count == 0 {
			wantNoLeast(t, v)
		} else {
			wantLeast(t, v, least)
		}
	}
}
