package chain_test

import (
	"fmt"
	"testing"

	"confluence/api"
	"confluence/chain"
)

func TestPutIntoNone(t *testing.T) {
	for _, l := range [][]api.Ver{nil, {}, rising(5)[:0]} {
		for _, v := range newcomers(times(3, 7)) {
			wantPut(t, l, v, []api.Ver{v})
		}
	}
}

// Ahead of all, between each two, and behind all.
func TestPutAtEachPlace(t *testing.T) {
	for _, l := range chains() {
		for i, v := range l {
			wantPut(t, without(l, i), v, l)
		}
	}
	one := ver(5, 5, 5)
	for i, v := range neighbours(one) {
		// The first three are ahead of the one, the others behind it.
		if i < 3 {
			wantPut(t, []api.Ver{one}, v, []api.Ver{v, one})
		} else {
			wantPut(t, []api.Ver{one}, v, []api.Ver{one, v})
		}
	}
}

// Marks are ordered by TS, then by DC, then by Tx, each as a number.
func TestPutByEachField(t *testing.T) {
	for _, c := range [][2]api.Ver{
		{ver(4, 3, 9), ver(5, 1, 1)},
		{ver(4, 1, 9), ver(4, 2, 1)},
		{ver(4, 1, 9), ver(4, 1, 10)},
		{ver(9, 0, 0), ver(10, 0, 0)},
		{ver(4, 9, 0), ver(4, 10, 0)},
		{ver(1<<63-1, 0, 0), ver(1<<63, 0, 0)},
		{ver(0, 0, 0), ver(latest, 0, 0)},
		{ver(1, 0, 0), ver(1<<32, 0, 0)},
		{ver(4, -1, 0), ver(4, 0, 0)},
		{ver(4, lowest, 0), ver(4, highest, 0)},
		{ver(4, 0, -1), ver(4, 0, 0)},
		{ver(4, 0, lowest), ver(4, 0, highest)},
		{ver(4, 0, 1), ver(4, 0, 1<<32)},
	} {
		wantPut(t, c[:1], c[1], c[:])
		wantPut(t, c[1:], c[0], c[:])
	}
}

// What else a version says makes no difference to its place.
func TestPutByMarksAlone(t *testing.T) {
	early, late := api.Ver{Key: "z", Val: "z", Gone: true, TS: 3}, api.Ver{Key: "a", TS: 7}
	wantPut(t, []api.Ver{early}, late, []api.Ver{early, late})
	wantPut(t, []api.Ver{late}, early, []api.Ver{early, late})
	same := api.Ver{Key: "k", Val: "v", TS: 5, DC: 1, Tx: 1}
	for _, v := range neighbours(same) {
		want := []api.Ver{same, v}
		if ahead(v, same) {
			want = []api.Ver{v, same}
		}
		wantPut(t, []api.Ver{same}, v, want)
	}
	deleted := gone(ver(5, 0, 0))
	wantPut(t, []api.Ver{deleted}, gone(ver(6, 0, 0)), []api.Ver{deleted, gone(ver(6, 0, 0))})
}

// Ahead of the first one that is greater, also where there are smaller ones behind it.
func TestPutIntoWhatIsNoChain(t *testing.T) {
	v := ver(4, 0, 0)
	for _, c := range []struct{ l, want []api.Ver }{
		{times(9, 1, 2, 3), times(4, 9, 1, 2, 3)},
		{times(1, 9, 2, 3), times(1, 4, 9, 2, 3)},
		{times(3, 2, 1), times(3, 2, 1, 4)},
		{times(3, 2, 1, 9), times(3, 2, 1, 4, 9)},
		{times(3, 9, 1, 8), times(3, 4, 9, 1, 8)},
		{times(9, 8, 7), times(4, 9, 8, 7)},
		{times(1, 1, 9, 9), times(1, 1, 4, 9, 9)},
		{times(3, 3, 3), times(3, 3, 3, 4)},
		{times(5, 5, 5), times(4, 5, 5, 5)},
		{times(1, 5, 1, 5, 1), times(1, 4, 5, 1, 5, 1)},
	} {
		wantPut(t, c.l, v, c.want)
	}
}

func TestPutOfWhatIsThere(t *testing.T) {
	for _, l := range allLists() {
		for i, v := range l {
			want := api.ErrThere
			// The first one with the mark is what it is held against.
			for _, x := range l[:i] {
				if !ahead(x, v) && !ahead(v, x) {
					if x != v {
						want = api.ErrForm
					}
					break
				}
			}
			wantPutRefused(t, l, v, want)
		}
	}
}

func TestPutOfAMarkThatIsThere(t *testing.T) {
	for _, l := range chains() {
		for _, v := range few(l, 30) {
			for _, alike := range likenesses(v) {
				wantPutRefused(t, l, alike, api.ErrForm)
			}
		}
	}
	empty, deleted := valued(ver(5, 0, 0), ""), gone(ver(5, 0, 0))
	wantPutRefused(t, []api.Ver{empty}, deleted, api.ErrForm)
	wantPutRefused(t, []api.Ver{deleted}, empty, api.ErrForm)
	wantPutRefused(t, []api.Ver{empty}, empty, api.ErrThere)
	wantPutRefused(t, []api.Ver{deleted}, deleted, api.ErrThere)
	wantPutRefused(t, []api.Ver{empty}, ver(5, 0, 0), api.ErrForm)
	wantPutRefused(t, []api.Ver{{}}, api.Ver{}, api.ErrThere)
	wantPutRefused(t, []api.Ver{{}}, api.Ver{Gone: true}, api.ErrForm)
	wantPutRefused(t, []api.Ver{{}}, api.Ver{Key: "k"}, api.ErrForm)
}

func TestPutIsHeldAgainstTheFirstOne(t *testing.T) {
	v, other, third := ver(5, 1, 1), valued(ver(5, 1, 1), "other"), gone(ver(5, 1, 1))
	low, high := ver(3, 0, 0), ver(9, 0, 0)
	for _, c := range []struct {
		l    []api.Ver
		want api.Errno
	}{
		{[]api.Ver{other, v}, api.ErrForm},
		{[]api.Ver{v, other}, api.ErrThere},
		{[]api.Ver{v, v}, api.ErrThere},
		{[]api.Ver{other, low, high, v}, api.ErrForm},
		{[]api.Ver{high, v, low, other}, api.ErrThere},
		{[]api.Ver{high, low, other, v, v}, api.ErrForm},
		{[]api.Ver{other, v, third}, api.ErrForm},
		{[]api.Ver{third, third, v}, api.ErrForm},
		{[]api.Ver{high, low, v}, api.ErrThere},
		{[]api.Ver{high, low, other}, api.ErrForm},
		{[]api.Ver{high, high, low, v, third}, api.ErrThere},
	} {
		wantPutRefused(t, c.l, v, c.want)
	}
}

// Refused, and then asked again: the list takes what it would have taken, and nothing else (R6).
func TestRefusedPutChangesNothing(t *testing.T) {
	for _, l := range allLists() {
		handed := own(l)
		for _, v := range newcomers(l) {
			if _, e := chain.Put(handed, v); e == api.OK {
				continue
			}
			later := ver(77, 7, 7)
			want, wantE := plainPut(l, later)
			got, e := chain.Put(handed, later)
			wantAnswered(t, "R6", fmt.Sprintf("behind a refused Put of %s, Put(%s, %s)", quoted(v), told(l), quoted(later)), got, e, want, wantE)
		}
	}
}
