package net_test

import (
	"fmt"
	"slices"
	"testing"

	"confluence/api"
	"confluence/net"
)

// busy has packets on all ways: one more than none, up to a full way, of texts that tell their way.
func busy(t *testing.T) *net.Net {
	t.Helper()
	n, k := net.New(), 0
	for from := range 21 {
		for to := range 21 {
			if from == to {
				continue
			}
			k++
			count := 1 + k%4
			if k%50 == 1 {
				count = 48
			}
			for i := range count {
				send(t, n, from, to, fmt.Sprintf("packet %d from %d to %d", i, from, to))
			}
			if k%3 == 0 {
				wantError(t, "P7.1", "Spoil", n.Spoil(from, to, 0, 0, 0x20), api.OK)
			}
		}
	}
	return n
}

// others is all that is told of the ways but one.
func others(n *net.Net, one way) []string {
	var told []string
	for from := range 21 {
		for to := range 21 {
			if (way{from, to}) != one {
				told = append(told, fmt.Sprint(from, " to ", to, ": ", n.Len(from, to), rowOf(n, from, to)))
			}
		}
	}
	for _, w := range waysOf(n) {
		if w != one {
			told = append(told, fmt.Sprint(w, " has packets"))
		}
	}
	return told
}

func wantOthers(t *testing.T, n *net.Net, one way, c call, i int, want []string) {
	t.Helper()
	got := others(n, one)
	if slices.Equal(got, want) {
		return
	}
	for k := range min(len(got), len(want)) {
		if got[k] != want[k] {
			t.Errorf("P7.2: behind %s there is %s, not %s", c.told(one[0], one[1], i), got[k], want[k])
			return
		}
	}
	t.Errorf("P7.2: behind %s other ways have packets, or have none any more", c.told(one[0], one[1], i))
}

// Each call on one way, also where it is an error, with all others looked at ahead and behind.
func TestWaysAreApart(t *testing.T) {
	for _, one := range []way{{0, 1}, {1, 0}, {0, 20}, {20, 0}, {2, 3}, {3, 2}, {10, 11}, {19, 20}, {20, 19}} {
		n := busy(t)
		want := others(n, one)
		for _, c := range append(calls(), spoiling(1, 255), spoiling(3, 7)) {
			for _, i := range []int{-1, 0, 1, n.Len(one[0], one[1]) - 1, n.Len(one[0], one[1]), 60} {
				c.do(n, one[0], one[1], i)
			}
			wantOthers(t, n, one, c, 0, want)
		}
		c := sending([]byte("to fill the way"))
		for range 60 {
			c.do(n, one[0], one[1], 0)
		}
		wantOthers(t, n, one, c, 0, want)
		for range n.Len(one[0], one[1]) {
			n.Take(one[0], one[1], 0)
		}
		wantOthers(t, n, one, call{name: "Take of all"}, 0, want)
	}
}

// On empty ways, nothing comes but on the one.
func TestNothingComesElsewhere(t *testing.T) {
	for from := range 21 {
		for to := range 21 {
			if from == to {
				continue
			}
			n := net.New()
			send(t, n, from, to, "one", "two")
			n.Twice(from, to, 0)
			n.Back(from, to, 0)
			n.Spoil(from, to, 1, 0, 1)
			n.Lose(from, to, 0)
			for a := range 21 {
				for b := range 21 {
					if (way{a, b}) != (way{from, to}) && n.Len(a, b) != 0 {
						t.Errorf("P7.2: behind calls from %d to %d there are %d packets from %d to %d", from, to, n.Len(a, b), a, b)
					}
				}
			}
		}
	}
}

// The same bytes on many ways, and the same packet: each has its own.
func TestSameBytesOnManyWays(t *testing.T) {
	n, b := net.New(), []byte("the same")
	ways := []way{{1, 2}, {2, 1}, {1, 3}, {3, 2}, {0, 20}}
	for _, w := range ways {
		wantError(t, "P7.1", "Send", n.Send(w[0], w[1], b), api.OK)
		wantError(t, "P7.1", "Twice", n.Twice(w[0], w[1], 0), api.OK)
	}
	for k, w := range ways {
		wantError(t, "P7.1", "Spoil", n.Spoil(w[0], w[1], 1, k, 0x20), api.OK)
		for j, v := range ways {
			want := whole("the same", "the same")
			if j <= k {
				want[1] = packet{turned("the same", j, 0x20), true}
			}
			wantRow(t, "P7.2", n, v[0], v[1], want)
		}
	}
}

// Two nets: nothing that is kept belongs to both of them.
func TestNetsAreApart(t *testing.T) {
	n, other := net.New(), crowded(t)
	before := all(other)
	send(t, n, 1, 2, texts(48)...)
	n.Send(1, 2, nil)
	n.Send(1, 2, nil)
	n.Lose(1, 2, 47)
	n.Spoil(1, 2, 0, 0, 255)
	n.Back(1, 2, 0)
	wantAll(t, "R2", "behind calls of another one", other, before)
	wantLost(t, "R2", n, 3)
	wantLost(t, "R2", other, 1)
	wantWays(t, "R2", net.New())
	wantLost(t, "R2", net.New(), 0)
}
