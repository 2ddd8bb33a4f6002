package chain_test

import (
	"fmt"
	"testing"

	"confluence/api"
	"confluence/chain"
)

func wantJoined(t *testing.T, promise string, a, b, want []api.Ver) {
	t.Helper()
	got, e := chain.Join(a, b)
	wantList(t, promise, fmt.Sprintf("Join(%s, %s)", told(a), told(b)), got, e, want)
}

func wantJoinRefused(t *testing.T, promise string, a, b []api.Ver) {
	t.Helper()
	got, e := chain.Join(a, b)
	wantRefused(t, promise, fmt.Sprintf("Join(%s, %s)", told(a), told(b)), got, e, api.ErrForm)
}

// Nothing is put, so that a is answered as it is, chain or not.
func TestJoinWithNone(t *testing.T) {
	wantJoined(t, "P9.1", nil, nil, nil)
	for _, l := range allLists() {
		wantJoined(t, "P9.1", l, nil, l)
		wantJoined(t, "P9.1", l, []api.Ver{}, l)
	}
	for _, l := range chains() {
		wantJoined(t, "P9.1", nil, l, l)
		wantJoined(t, "P9.1", []api.Ver{}, l, l)
	}
}

// What is no chain becomes one, if it is put into none.
func TestJoinOfNoneWithWhatIsNoChain(t *testing.T) {
	v, other := ver(5, 1, 1), valued(ver(5, 1, 1), "other")
	wantJoined(t, "P9.1", nil, times(9, 7, 5, 3), times(3, 5, 7, 9))
	wantJoined(t, "P9.1", nil, times(3, 9, 5, 7, 1<<63, 0), times(0, 3, 5, 7, 9, 1<<63))
	wantJoined(t, "P9.1", nil, times(5, 5, 3, 5, 3), times(3, 5))
	wantJoined(t, "P9.1", nil, append(rising(30), rising(30)...), rising(30))
	wantJoinRefused(t, "P9.1", nil, []api.Ver{v, other})
	wantJoinRefused(t, "P9.1", nil, []api.Ver{v, ver(3, 0, 0), v, ver(9, 0, 0), other})
	wantJoinRefused(t, "P9.1", nil, []api.Ver{other, v, v})
}

func TestJoinOfChains(t *testing.T) {
	for _, c := range []struct{ a, b, want []api.Ver }{
		{times(3, 7), times(3, 7), times(3, 7)},
		{times(3), times(7), times(3, 7)},
		{times(3, 7), times(1, 5, 9), times(1, 3, 5, 7, 9)},
		{times(3, 5, 7), times(5), times(3, 5, 7)},
		{times(3, 5, 7), times(5, 6), times(3, 5, 6, 7)},
		{times(3, 5), times(3, 4, 5, 6), times(3, 4, 5, 6)},
		{times(1, 2, 3), times(7, 8, 9), times(1, 2, 3, 7, 8, 9)},
		{times(0, latest), times(1<<63-1, 1<<63), times(0, 1<<63-1, 1<<63, latest)},
		{[]api.Ver{ver(4, 0, 1), ver(4, 2, 0)}, []api.Ver{ver(4, 0, 2), ver(4, 1, 9)}, []api.Ver{ver(4, 0, 1), ver(4, 0, 2), ver(4, 1, 9), ver(4, 2, 0)}},
		{[]api.Ver{gone(ver(4, 0, 1))}, []api.Ver{gone(ver(4, 0, 1)), gone(ver(4, 0, 2))}, []api.Ver{gone(ver(4, 0, 1)), gone(ver(4, 0, 2))}},
		{[]api.Ver{{Key: "a", TS: 2}}, []api.Ver{{Key: "b", TS: 1}}, []api.Ver{{Key: "b", TS: 1}, {Key: "a", TS: 2}}},
	} {
		wantJoined(t, "P9.1", c.a, c.b, c.want)
		wantJoined(t, "P9.5", c.b, c.a, c.want)
	}
}

func TestJoinWithItself(t *testing.T) {
	for _, l := range chains() {
		wantJoined(t, "P9.1", l, l, l)
		wantJoined(t, "P9.1", l, own(l), l)
	}
	for _, l := range [][]api.Ver{times(9, 7, 5, 3), times(5, 5), times(3, 9, 5, 9, 3)} {
		wantJoined(t, "P9.1", l, l, l)
	}
}

// Into a as it is, each ahead of the first one that is greater.
func TestJoinIntoWhatIsNoChain(t *testing.T) {
	v, other := ver(5, 1, 1), valued(ver(5, 1, 1), "other")
	low, high := ver(3, 0, 0), ver(9, 0, 0)
	wantJoined(t, "P9.1", times(9, 1, 2), times(4, 10, 3), times(3, 4, 9, 1, 2, 10))
	wantJoined(t, "P9.1", times(3, 9, 1, 8), times(2, 5, 8, 1, 20, 10), times(2, 3, 5, 9, 1, 8, 10, 20))
	wantJoined(t, "P9.1", times(5, 5), times(5, 4, 6, 5), times(4, 5, 5, 6))
	wantJoined(t, "P9.1", []api.Ver{v, low, other}, []api.Ver{v, high}, []api.Ver{v, low, other, high})
	wantJoinRefused(t, "P9.1", []api.Ver{v, low, other}, []api.Ver{other})
	wantJoinRefused(t, "P9.1", []api.Ver{other, low, v, high}, []api.Ver{high, v})
}

// One that doesn't go together with the list, at each place, behind others that are there and that are not.
func TestJoinOfWhatDoesNotGoTogether(t *testing.T) {
	for _, l := range chains() {
		for i, v := range l {
			if i >= 40 {
				break
			}
			for _, alike := range likenesses(v) {
				b := own(l)
				b[i] = alike
				for _, other := range [][]api.Ver{{alike}, b, b[:i+1], append(times(100, 99), b...), append([]api.Ver{alike}, v)} {
					wantJoinRefused(t, "P9.1", l, other)
					wantJoinRefused(t, "P9.5", other, l)
				}
			}
		}
	}
}

// ErrThere of some is passed over, ahead of ErrForm and behind it.
func TestJoinPassesOverWhatIsThere(t *testing.T) {
	a, form := times(3, 5, 7), valued(ver(5, 0, 0), "other")
	there, fresh := a[0], ver(4, 0, 0)
	for _, b := range [][]api.Ver{
		{there, form}, {form, there}, {there, there, form}, {there, form, there}, {there, fresh, form},
		{fresh, form, there}, {fresh, there, fresh, form, fresh}, {a[0], a[1], a[2], form}, {form, form},
		{fresh, valued(fresh, "other")}, {there, fresh, there, valued(fresh, "other"), there},
	} {
		wantJoinRefused(t, "P9.1", a, b)
	}
	wantJoined(t, "P9.1", a, []api.Ver{there, fresh}, times(3, 4, 5, 7))
	wantJoined(t, "P9.1", a, []api.Ver{fresh, there}, times(3, 4, 5, 7))
	wantJoined(t, "P9.1", a, []api.Ver{there, there, fresh, fresh, there, a[2], fresh}, times(3, 4, 5, 7))
}

func TestJoinedAgain(t *testing.T) {
	for _, a := range allLists() {
		for _, b := range allLists() {
			joined, e := chain.Join(a, b)
			if e != api.OK {
				// Refused once, and refused again.
				wantJoinRefused(t, "R6", a, b)
				continue
			}
			wantJoined(t, "P9.1", joined, b, joined)
			wantJoined(t, "P9.1", a, b, joined)
		}
	}
}

// partsOf are the versions of a chain that a row of numbers picks: some of them into one chain, some into the other, some into both.
func partsOf(r *numbers, l []api.Ver) (a, b []api.Ver) {
	for _, v := range l {
		way := r.below(3)
		if way < 2 {
			a = append(a, v)
		}
		if way > 0 {
			b = append(b, v)
		}
	}
	return a, b
}

func TestJoinInBothOrders(t *testing.T) {
	r := numbers(5)
	for _, l := range chains() {
		for range 20 {
			a, b := partsOf(&r, l)
			wantJoined(t, "P9.5", a, b, l)
			wantJoined(t, "P9.5", b, a, l)
			first, rest := partsOf(&r, b)
			ab, e := chain.Join(a, first)
			if e != api.OK {
				t.Errorf("P9.5: Join(%s, %s) has error %d", told(a), told(first), e)
			}
			wantJoined(t, "P9.5", rest, ab, l)
			wantJoined(t, "P9.5", ab, rest, l)
		}
	}
	for _, a := range chains() {
		for _, b := range chains() {
			want, e := chain.Join(a, b)
			if e != api.OK {
				wantJoinRefused(t, "P9.5", b, a)
				continue
			}
			wantJoined(t, "P9.5", b, a, want)
			wantChain(t, "P9.5", fmt.Sprintf("Join(%s, %s)", told(a), told(b)), want)
		}
	}
}

func TestJoinOfLongChains(t *testing.T) {
	r, l := numbers(7), rising(3000)
	a, b := partsOf(&r, l)
	wantJoined(t, "P9.1", a, b, l)
	wantJoined(t, "P9.5", b, a, l)
	other := own(b)
	other[len(b)-1].Val += "x"
	wantJoinRefused(t, "P9.1", l, other)
	wantJoinRefused(t, "P9.5", other, l)
}

func TestRefusedJoinChangesNothing(t *testing.T) {
	a, b := times(3, 5, 7), []api.Ver{ver(4, 0, 0), valued(ver(5, 0, 0), "other"), ver(6, 0, 0)}
	for range 3 {
		wantJoinRefused(t, "R6", a, b)
		wantJoined(t, "R6", a, nil, times(3, 5, 7))
		wantJoined(t, "R6", a, b[:1], times(3, 4, 5, 7))
		wantPut(t, a, ver(4, 0, 0), times(3, 4, 5, 7))
		wantPut(t, a, ver(6, 0, 0), times(3, 5, 6, 7))
	}
}
