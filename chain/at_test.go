package chain_test

import (
	"testing"

	"confluence/api"
	"confluence/chain"
)

func wantSeen(t *testing.T, l []api.Ver, snap uint64, want api.Ver) {
	t.Helper()
	if got := seenAt(l, snap); got != (seen{want, true}) {
		t.Errorf("P9.1: At(%s, %d) is %v, not %s", told(l), snap, got, quoted(want))
	}
}

func wantNoneSeen(t *testing.T, l []api.Ver, snap uint64) {
	t.Helper()
	got := seenAt(l, snap)
	if got.there {
		t.Errorf("P9.1: At(%s, %d) is %v, but there is none", told(l), snap, got)
	}
	if got.v != (api.Ver{}) {
		t.Errorf("R5: At(%s, %d) tells %s beside false", told(l), snap, quoted(got.v))
	}
}

func TestExamples(t *testing.T) {
	l := times(3, 7)
	wantNoneSeen(t, l, 2)
	wantSeen(t, l, 5, l[0])
	wantSeen(t, l, 7, l[1])
	wantTrimmed(t, l, 7, l[1:])
	wantTrimmed(t, l, 6, l)
}

func TestAtOfNone(t *testing.T) {
	for _, l := range [][]api.Ver{nil, {}, times(1, 2)[:0]} {
		for _, snap := range moments(nil) {
			wantNoneSeen(t, l, snap)
		}
	}
}

// At each version's time, one below it and one above it.
func TestAtOfTimes(t *testing.T) {
	l := times(3, 5, 6, 70, 1<<63-1, 1<<63)
	for snap := range uint64(3) {
		wantNoneSeen(t, l, snap)
	}
	for _, c := range []struct {
		snap uint64
		want int
	}{
		{3, 0}, {4, 0}, {5, 1}, {6, 2}, {7, 2}, {69, 2}, {70, 3}, {71, 3}, {1 << 32, 3},
		{1<<63 - 2, 3}, {1<<63 - 1, 4}, {1 << 63, 5}, {1<<63 + 1, 5}, {latest - 1, 5}, {latest, 5},
	} {
		wantSeen(t, l, c.snap, l[c.want])
	}
	for _, v := range l {
		wantNoneSeen(t, []api.Ver{v}, v.TS-1)
		wantSeen(t, []api.Ver{v}, v.TS, v)
		wantSeen(t, []api.Ver{v}, v.TS+1, v)
	}
}

func TestAtTheEndsOfTime(t *testing.T) {
	l := times(0, latest)
	wantSeen(t, l, 0, l[0])
	wantSeen(t, l, 1, l[0])
	wantSeen(t, l, 1<<63, l[0])
	wantSeen(t, l, latest-1, l[0])
	wantSeen(t, l, latest, l[1])
	wantNoneSeen(t, l[1:], 0)
	wantNoneSeen(t, l[1:], latest-1)
	wantSeen(t, l[1:], latest, l[1])
}

// Of several with one time the one whose mark is greatest, wherever it stands.
func TestAtOfOneTime(t *testing.T) {
	for _, l := range [][]api.Ver{
		{ver(4, 0, 1), ver(4, 0, 2), ver(4, 0, 10)},
		{ver(4, 0, 9), ver(4, 1, 5), ver(4, 2, 1)},
		{ver(4, 1, 9), ver(4, 2, 3), ver(4, 10, 0)},
		{ver(4, -2, 9), ver(4, -1, 9), ver(4, 0, lowest)},
		{ver(4, 0, lowest), ver(4, 0, -1), ver(4, 0, highest)},
		{ver(4, lowest, 0), ver(4, -1, 0), ver(4, highest, 0)},
	} {
		greatest := l[2]
		for _, turned := range [][]api.Ver{l, {l[2], l[1], l[0]}, {l[1], l[2], l[0]}, {l[0], l[2], l[1]}} {
			wantNoneSeen(t, turned, 3)
			wantSeen(t, turned, 4, greatest)
			wantSeen(t, turned, 5, greatest)
		}
	}
}

func TestAtOfOneMark(t *testing.T) {
	v, other, third := ver(5, 1, 1), valued(ver(5, 1, 1), "other"), gone(ver(5, 1, 1))
	low, high := ver(3, 2, 2), ver(9, 0, 0)
	for _, l := range [][]api.Ver{
		{v, other},
		{v, other, third},
		{v, v, other},
		{low, v, third, high},
		{high, v, low, other},
		{v, high, other, low, low},
		{low, low, high, v, third, v},
	} {
		wantSeen(t, l, 5, v)
		wantSeen(t, l, 8, v)
	}
	wantSeen(t, []api.Ver{other, v, third}, 5, other)
	wantSeen(t, []api.Ver{third, v, other}, 5, third)
	wantSeen(t, []api.Ver{{Key: "a"}, {Key: "b"}}, 0, api.Ver{Key: "a"})
}

func TestAtOfWhatIsNoChain(t *testing.T) {
	l := times(9, 2, 7, 4, 5)
	wantNoneSeen(t, l, 1)
	for snap, want := range map[uint64]uint64{2: 2, 3: 2, 4: 4, 5: 5, 6: 5, 7: 7, 8: 7, 9: 9, latest: 9} {
		wantSeen(t, l, snap, ver(want, 0, 0))
	}
}

// A version that says that the key is gone, or has an empty value, or says nothing at all, is seen as others are.
func TestAtOfWhatIsGone(t *testing.T) {
	l := []api.Ver{ver(2, 0, 0), gone(ver(4, 0, 0)), valued(ver(6, 0, 0), ""), ver(8, 0, 0)}
	for i, v := range l {
		wantSeen(t, l, v.TS, v)
		wantSeen(t, l[:i+1], latest, v)
	}
	wantSeen(t, []api.Ver{{}}, 0, api.Ver{})
	wantSeen(t, []api.Ver{{}}, latest, api.Ver{})
}

func TestAtALaterTimeNoLowerMark(t *testing.T) {
	for _, l := range allLists() {
		var before seen
		for _, snap := range moments(l) {
			now := seenAt(l, snap)
			if before.there && (!now.there || ahead(now.v, before.v)) {
				t.Errorf("P9.3: At(%s, %d) is %v, but ahead of that it was %v", told(l), snap, now, before)
			}
			if now.there && now.v.TS > snap {
				t.Errorf("P9.1: At(%s, %d) is %v", told(l), snap, now)
			}
			before = now
		}
	}
}

// At and Trim of times between 0 and those of a long list, one by one.
func TestAtEachTimeOfALongList(t *testing.T) {
	l := rising(2000)
	place := -1
	for snap := range uint64(l[len(l)-1].TS + 5) {
		for place+1 < len(l) && l[place+1].TS <= snap {
			place++
		}
		if place < 0 {
			wantNoneSeen(t, l, snap)
			continue
		}
		wantSeen(t, l, snap, l[place])
		if got, went := chain.Trim(l, snap); went != place || len(got) != len(l)-place || got[0] != l[place] {
			t.Errorf("P9.1: Trim(%s, %d) is %s, %d, not from %s on", told(l), snap, told(got), went, quoted(l[place]))
		}
	}
}
