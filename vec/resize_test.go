package vec_test

import (
	"testing"

	"confluence/vec"
)

func TestResizeOfLaterEpochs(t *testing.T) {
	l := epochs()
	for i, from := range l {
		for k, to := range l {
			v := vector(from, in(5), in(3), out(0), in(9))
			if k > i {
				wantResize(t, v, to, who(0, 1, 2), vector(to, in(5), in(3), in(0)))
			} else {
				wantTooOld(t, v, to, who(0, 1, 2))
			}
		}
	}
}

// The same and lesser epochs are refused whoever counts, also where nothing would change.
func TestResizeOfEpochsThatAreTooOld(t *testing.T) {
	for _, v := range []vec.Vec{vector(0), vector(7, in(5), in(3)), vector(7, in(5), out(3), in(latest), out(latest)), vector(-2, in(1), in(2), in(3), in(4))} {
		for _, has := range allMembers() {
			for _, epoch := range []int{v.Epoch, v.Epoch - 1, v.Epoch - 2, v.Epoch - 100, lowest} {
				wantTooOld(t, v, epoch, has)
			}
		}
		wantTooOld(t, v, v.Epoch, v.Has)
	}
	for _, epoch := range epochs() {
		wantTooOld(t, vector(highest, in(5)), epoch, who(0))
		wantTooOld(t, vector(epoch, in(5)), lowest, who(0))
	}
}

// Each datacenter stays, goes, comes or is none both ahead and behind; each with the time that it has then.
func TestResizeOfAllMembers(t *testing.T) {
	for _, was := range allMembers() {
		for _, has := range allMembers() {
			v := vec.Vec{Epoch: 4, Has: was, T: [4]uint64{5, 1, latest, 1 << 63}}
			plain := v
			want := vec.Vec{Epoch: 5, Has: has}
			for dc := range 4 {
				if was[dc] && has[dc] {
					want.T[dc] = v.T[dc]
				}
				if !was[dc] {
					plain.T[dc] = 0
				}
			}
			wantResize(t, v, 5, has, want)
			wantResize(t, plain, 5, has, want)
		}
	}
}

func TestResizeWhoStaysGoesAndComes(t *testing.T) {
	v := vector(4, in(5), in(3), out(0), out(0))
	wantResize(t, v, 5, who(0, 1), vector(5, in(5), in(3)))
	wantResize(t, v, 5, who(1), vector(5, out(0), in(3)))
	wantResize(t, v, 5, who(2), vector(5, out(0), out(0), in(0)))
	wantResize(t, v, 5, who(), vector(5))
	wantResize(t, v, 5, who(0, 1, 2, 3), vector(5, in(5), in(3), in(0), in(0)))
	wantResize(t, vector(4), 5, who(0, 1, 2, 3), vector(5, in(0), in(0), in(0), in(0)))
	wantResize(t, vector(4), 5, who(), vector(5))
}

// Who comes had a time as none ahead: it counted as 0, and is 0.
func TestResizeWhoComesWithATime(t *testing.T) {
	for dc := range 4 {
		for _, time := range moments() {
			v := with(vector(-1, in(5), in(5), in(5), in(5)), dc, out(time))
			wantResize(t, v, 0, who(0, 1, 2, 3), with(vector(0, in(5), in(5), in(5), in(5)), dc, in(0)))
			alone := with(vector(-1), dc, out(time))
			wantResize(t, alone, 0, who(dc), with(vector(0), dc, in(0)))
			wantResize(t, alone, 0, who(), vector(0))
		}
	}
}

// Who goes and comes again later has forgotten its time.
func TestResizeWhoGoesAndComesAgain(t *testing.T) {
	v := vector(1, in(5), in(3), in(8))
	gone, _ := vec.Resize(v, 2, who(0, 2))
	wantResize(t, v, 2, who(0, 2), vector(2, in(5), out(0), in(8)))
	wantResize(t, gone, 3, who(0, 1, 2), vector(3, in(5), in(0), in(8)))
	back, _ := vec.Resize(gone, 3, who(0, 1, 2))
	wantRaise(t, back, 1, 4, vector(3, in(5), in(4), in(8)))
	wantTooOld(t, back, 3, who(0, 1))
	wantTooOld(t, back, 2, who(0, 1))
}
