package net_test

import (
	"slices"
	"testing"

	"confluence/api"
	"confluence/net"
)

func wantWays(t *testing.T, promise string, n *net.Net, want ...way) {
	t.Helper()
	if got := waysOf(n); !slices.Equal(got, want) {
		t.Errorf("%s: the ways that have packets are %v, not %v", promise, got, want)
	}
}

// scattered are ways in their order; the sending goes another way.
func scattered(t *testing.T) (*net.Net, []way) {
	t.Helper()
	l := []way{{0, 1}, {0, 20}, {1, 0}, {1, 2}, {1, 11}, {2, 1}, {2, 10}, {10, 2}, {19, 20}, {20, 0}, {20, 19}}
	n := net.New()
	for k := range l {
		w := l[(k*7+3)%len(l)]
		send(t, n, w[0], w[1], texts(1+k%3)...)
	}
	return n, l
}

func TestWaysOfNone(t *testing.T) {
	n := net.New()
	wantWays(t, "P7.1", n)
	for _, w := range wrongWays() {
		n.Send(w[0], w[1], []byte("x"))
	}
	wantWays(t, "P7.1: behind Sends that are refused", n)
}

func TestWaysOfOne(t *testing.T) {
	for from := range 21 {
		for to := range 21 {
			if from == to {
				continue
			}
			n := net.New()
			send(t, n, from, to, "")
			wantWays(t, "P7.1", n, way{from, to})
			send(t, n, from, to, "a second one")
			wantWays(t, "P7.1", n, way{from, to})
		}
	}
}

func TestWaysOfMany(t *testing.T) {
	n, want := scattered(t)
	wantWays(t, "P7.1", n, want...)
	var each []way
	for from := range 21 {
		for to := range 21 {
			if from != to {
				each = append(each, way{from, to})
				n.Send(20-from, 20-to, nil)
			}
		}
	}
	wantWays(t, "P7.1", n, each...)
}

// What goes, comes, or goes about on a way is seen in the ways that are told next.
func TestWaysBehindCalls(t *testing.T) {
	n := net.New()
	send(t, n, 5, 6, "a")
	send(t, n, 6, 5, "b", "c")
	wantWays(t, "P7.1", n, way{5, 6}, way{6, 5})
	n.Twice(5, 6, 0)
	n.Back(6, 5, 0)
	n.Look(5, 6, 0)
	n.Spoil(6, 5, 1, 0, 1)
	wantWays(t, "P7.1", n, way{5, 6}, way{6, 5})
	n.Take(5, 6, 0)
	n.Lose(6, 5, 0)
	wantWays(t, "P7.1: with one packet on each", n, way{5, 6}, way{6, 5})
	n.Take(5, 6, 0)
	wantWays(t, "P7.1: with all taken on one", n, way{6, 5})
	n.Lose(6, 5, 0)
	wantWays(t, "P7.1: with all gone", n)
	send(t, n, 6, 5, "d")
	wantWays(t, "P7.1", n, way{6, 5})
}

func TestWaysLeftEarlyAndRangedAgain(t *testing.T) {
	n, want := scattered(t)
	before := all(n)
	ways := n.Ways()
	for left := 1; left <= len(want)+1; left++ {
		var got []way
		for from, to := range ways {
			got = append(got, way{from, to})
			if len(got) == left {
				break
			}
		}
		if !slices.Equal(got, want[:min(left, len(want))]) {
			t.Errorf("R7: left behind %d, the ways are %v", left, got)
		}
	}
	for range 2 {
		var got []way
		for from, to := range ways {
			got = append(got, way{from, to})
		}
		if !slices.Equal(got, want) {
			t.Errorf("R7: ranged over again, the ways are %v, not %v", got, want)
		}
	}
	wantAll(t, "P7.1", "behind Ways", n, before)
}

// Behind the answer that it is to be left, nothing is told any more: not of the same place's ways, not of the next one's.
func TestWaysTellNothingWhenLeft(t *testing.T) {
	n, want := scattered(t)
	for left := range want {
		told := 0
		n.Ways()(func(int, int) bool {
			told++
			return told <= left
		})
		if told != left+1 {
			t.Errorf("R7: left behind %d, %d ways are told", left+1, told)
		}
	}
}

func TestWaysWithinWays(t *testing.T) {
	n, want := scattered(t)
	var got []way
	for from, to := range n.Ways() {
		got = append(got, way{from, to})
		wantWays(t, "R7: ranged over in the midst of itself", n, want...)
		if n.Len(from, to) == 0 {
			t.Errorf("P7.1: from %d to %d there is no packet", from, to)
		}
	}
	if !slices.Equal(got, want) {
		t.Errorf("R7: the ways are %v, not %v", got, want)
	}
}

// The ways are gathered first, and gone through with calls behind that.
func TestWaysEmptiedOneByOne(t *testing.T) {
	n, want := scattered(t)
	for k, w := range want {
		wantWays(t, "P7.1", n, want[k:]...)
		for range n.Len(w[0], w[1]) {
			wantError(t, "P7.1", "Lose", n.Lose(w[0], w[1], 0), api.OK)
		}
	}
	wantWays(t, "P7.1", n)
}
