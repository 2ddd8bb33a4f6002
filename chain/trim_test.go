package chain_test

import (
	"fmt"
	"testing"

	"confluence/api"
	"confluence/chain"
)

func wantTrimmed(t *testing.T, l []api.Ver, floor uint64, want []api.Ver) {
	t.Helper()
	call := fmt.Sprintf("Trim(%s, %d)", told(l), floor)
	got, went := chain.Trim(l, floor)
	wantList(t, "P9.1", call, got, api.OK, want)
	if went != len(l)-len(want) {
		t.Errorf("P9.1: %s tells that %d went, not %d", call, went, len(l)-len(want))
	}
}

func TestTrimOfNone(t *testing.T) {
	for _, l := range [][]api.Ver{nil, {}, times(1, 2)[:0]} {
		for _, floor := range moments(nil) {
			wantTrimmed(t, l, floor, nil)
		}
	}
}

// At each version's time, one below it and one above it.
func TestTrimOfTimes(t *testing.T) {
	l := times(3, 5, 6, 70, 1<<63-1, 1<<63)
	for _, c := range []struct {
		floor uint64
		went  int
	}{
		{0, 0}, {2, 0}, {3, 0}, {4, 0}, {5, 1}, {6, 2}, {7, 2}, {69, 2}, {70, 3}, {71, 3}, {1 << 32, 3},
		{1<<63 - 2, 3}, {1<<63 - 1, 4}, {1 << 63, 5}, {1<<63 + 1, 5}, {latest, 5},
	} {
		wantTrimmed(t, l, c.floor, l[c.went:])
	}
	for _, v := range l {
		for _, floor := range moments(l) {
			wantTrimmed(t, []api.Ver{v}, floor, []api.Ver{v})
		}
	}
	ends := times(0, latest)
	wantTrimmed(t, ends, 0, ends)
	wantTrimmed(t, ends, latest-1, ends)
	wantTrimmed(t, ends, latest, ends[1:])
}

// Of those with one time the greatest alone is seen; the others go.
func TestTrimOfOneTime(t *testing.T) {
	for _, l := range [][]api.Ver{
		{ver(4, 0, 1), ver(4, 0, 2), ver(4, 0, 10)},
		{ver(4, 0, 9), ver(4, 1, 5), ver(4, 2, 1)},
		{ver(4, -2, 9), ver(4, -1, 9), ver(4, 0, lowest)},
		{ver(4, 0, lowest), ver(4, 0, -1), ver(4, 0, highest)},
		{ver(4, lowest, 0), ver(4, -1, 0), ver(4, highest, 0)},
	} {
		wantTrimmed(t, l, 3, l)
		wantTrimmed(t, l, 4, l[2:])
		wantTrimmed(t, l, latest, l[2:])
		turned := []api.Ver{l[2], l[1], l[0]}
		wantTrimmed(t, turned, 3, turned)
		wantTrimmed(t, turned, 4, turned[:1])
	}
}

// Those with the mark of the one that is seen aren't below it.
func TestTrimOfOneMark(t *testing.T) {
	v, other, third := ver(5, 1, 1), valued(ver(5, 1, 1), "other"), gone(ver(5, 1, 1))
	low, high := ver(5, 1, 0), ver(9, 0, 0)
	for _, c := range []struct{ l, want []api.Ver }{
		{[]api.Ver{v, other}, []api.Ver{v, other}},
		{[]api.Ver{v, v, v}, []api.Ver{v, v, v}},
		{[]api.Ver{low, v, third, high}, []api.Ver{v, third, high}},
		{[]api.Ver{low, other, low, v, high, low, third}, []api.Ver{other, v, high, third}},
		{[]api.Ver{low, low, v}, []api.Ver{v}},
		{[]api.Ver{low, low, high, high}, []api.Ver{low, low, high, high}},
	} {
		wantTrimmed(t, c.l, 5, c.want)
		wantTrimmed(t, c.l, 8, c.want)
		wantTrimmed(t, c.l, 4, c.l)
	}
}

// What is below the one that is seen goes, also behind it; what is above it stays, also ahead of it.
func TestTrimOfWhatIsNoChain(t *testing.T) {
	for _, c := range []struct {
		l     []api.Ver
		floor uint64
		want  []api.Ver
	}{
		{times(9, 7, 5, 3, 1), 5, times(9, 7, 5)},
		{times(9, 7, 5, 3, 1), 6, times(9, 7, 5)},
		{times(9, 7, 5, 3, 1), 0, times(9, 7, 5, 3, 1)},
		{times(9, 7, 5, 3, 1), 9, times(9)},
		{times(9, 7, 5, 3, 1), latest, times(9)},
		{times(3, 9, 1, 5, 2, 8, 4), 5, times(9, 5, 8)},
		{times(3, 9, 1, 5, 2, 8, 4), 7, times(9, 5, 8)},
		{times(3, 9, 1, 5, 2, 8, 4), 2, times(3, 9, 5, 2, 8, 4)},
		{times(5, 1, 1, 1), 5, times(5)},
		{times(1, 1, 1, 5), 5, times(5)},
		{times(1, 5, 1, 5, 1), 6, times(5, 5)},
		{times(9, 9, 2), 8, times(9, 9, 2)},
	} {
		wantTrimmed(t, c.l, c.floor, c.want)
	}
}

// What a version says of the key makes no difference to whether it goes.
func TestTrimOfWhatIsGone(t *testing.T) {
	l := []api.Ver{ver(2, 0, 0), gone(ver(4, 0, 0)), valued(ver(6, 0, 0), ""), {Key: "a", TS: 8}, ver(10, 0, 0)}
	for i, v := range l {
		wantTrimmed(t, l, v.TS, l[i:])
		wantTrimmed(t, l[:i+1], latest, l[i:i+1])
	}
}

func TestTrimChangesNothingFromFloorOn(t *testing.T) {
	for _, l := range allLists() {
		some := moments(few(l, 20))
		for i, floor := range some {
			trimmed, _ := chain.Trim(l, floor)
			for _, snap := range some[i:] {
				if got, want := seenAt(trimmed, snap), seenAt(l, snap); got != want {
					t.Errorf("P9.4: behind Trim(%s, %d), At %d is %v, not %v", told(l), floor, snap, got, want)
				}
			}
		}
	}
}

// Nor does anything go at a lower floor; and at a higher one goes what would have gone at once.
func TestTrimmedAgain(t *testing.T) {
	for _, l := range allLists() {
		some := moments(few(l, 20))
		for i, floor := range some {
			trimmed, went := chain.Trim(l, floor)
			for _, lower := range some[:i+1] {
				again, more := chain.Trim(trimmed, lower)
				call := fmt.Sprintf("Trim at %d behind Trim(%s, %d)", lower, told(l), floor)
				wantList(t, "P9.4", call, again, api.OK, trimmed)
				if more != 0 {
					t.Errorf("P9.4: %s tells that %d went", call, more)
				}
			}
			for _, higher := range some[i:] {
				again, more := chain.Trim(trimmed, higher)
				want, all := plainTrim(l, higher)
				call := fmt.Sprintf("Trim at %d behind Trim(%s, %d)", higher, told(l), floor)
				wantList(t, "P9.4", call, again, api.OK, want)
				if went+more != all {
					t.Errorf("P9.4: %s tells that %d went, and %d ahead of that, but %d are to go", call, more, went, all)
				}
			}
		}
	}
}

func TestTrimOfAChainIsAChain(t *testing.T) {
	for _, l := range chains() {
		for _, floor := range moments(few(l, 30)) {
			trimmed, _ := chain.Trim(l, floor)
			wantChain(t, "P9.4", fmt.Sprintf("Trim(%s, %d)", told(l), floor), trimmed)
		}
	}
}
