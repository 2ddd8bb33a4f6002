package net_test

import (
	"fmt"
	"testing"

	"confluence/api"
	"confluence/net"
)

// wrongWays are pairs of numbers that are no way: one of them, or both, are no place, or they are the same.
func wrongWays() []way {
	var l []way
	// Those from 1<<32 on are places in their lower 32 bits.
	for _, wrong := range []int{-1, -2, -20, -farOff - 1, 21, 22, 441, 1 << 32, 1<<32 + 2, farOff} {
		for _, other := range []int{0, 1, 2, 19, 20} {
			l = append(l, way{wrong, other}, way{other, wrong})
		}
		l = append(l, way{wrong, wrong}, way{wrong, 21}, way{-1, wrong})
	}
	for place := range 21 {
		l = append(l, way{place, place})
	}
	return l
}

func TestExamples(t *testing.T) {
	n := net.New()
	wantError(t, "P7.1", "Send(1, 2)", n.Send(1, 2, []byte("x")), api.OK)
	wantError(t, "P7.1", "Twice(1, 2, 0)", n.Twice(1, 2, 0), api.OK)
	if n.Len(1, 2) != 2 {
		t.Errorf("P7.1: Len(1, 2) is %d, not 2", n.Len(1, 2))
	}
	wantError(t, "P7.1", "Spoil(1, 2, 0, 0, 1)", n.Spoil(1, 2, 0, 0, 1), api.OK)
	wantError(t, "P7.1", "Spoil(1, 2, 0, 0, 1) again", n.Spoil(1, 2, 0, 0, 1), api.ErrThere)
	wantError(t, "P7.1", "Send(1, 1)", n.Send(1, 1, []byte("x")), api.ErrArg)
	wantRow(t, "P7.1", n, 1, 2, []packet{{"y", true}, {"x", false}})
}

func TestNoSuchWay(t *testing.T) {
	for name, n := range map[string]*net.Net{"an empty": net.New(), "a crowded": crowded(t)} {
		before := all(n)
		for _, w := range wrongWays() {
			if n.Len(w[0], w[1]) != 0 {
				t.Errorf("P7.1: in %s net Len(%d, %d) is %d", name, w[0], w[1], n.Len(w[0], w[1]))
			}
			for _, c := range calls() {
				// With each i another error would apply to one of the calls.
				for _, i := range []int{0, 1, 47, 48, -1, farOff} {
					wantRefused(t, "R6: in "+name+" net", n, c, w[0], w[1], i, api.ErrArg)
				}
			}
		}
		wantAll(t, "R6", "behind calls without a way", n, before)
	}
}

// Each pair of two places is a way, at all calls.
func TestEachWay(t *testing.T) {
	n := net.New()
	for from := range 21 {
		for to := range 21 {
			if from == to {
				continue
			}
			first, second := fmt.Sprint("first from ", from, " to ", to), fmt.Sprint("second from ", from, " to ", to)
			send(t, n, from, to, first, second)
			wantRow(t, "P7.1", n, from, to, whole(first, second))
			for name, e := range map[string]api.Errno{"Back": n.Back(from, to, 0), "Twice": n.Twice(from, to, 1), "Lose": n.Lose(from, to, 1), "Spoil": n.Spoil(from, to, 0, 0, 's'^'S')} {
				wantError(t, "P7.1", fmt.Sprintf("%s on the way from %d to %d", name, from, to), e, api.OK)
			}
			wantRow(t, "P7.1", n, from, to, []packet{{"S" + second[1:], true}, {first, false}})
			p, e := n.Take(from, to, 0)
			wantPacket(t, "P7.1", fmt.Sprintf("Take(%d, %d, 0)", from, to), p, e, packet{"S" + second[1:], true})
			if n.Len(from, to) != 1 {
				t.Errorf("P7.1: Len(%d, %d) is %d, not 1", from, to, n.Len(from, to))
			}
		}
	}
	for from := range 21 {
		for to := range 21 {
			if from != to {
				wantRow(t, "P7.2", n, from, to, whole(fmt.Sprint("first from ", from, " to ", to)))
			}
		}
	}
	wantLost(t, "P7.1", n, 420)
}

func TestNoSuchPacket(t *testing.T) {
	for _, count := range []int{0, 1, 2, 5, 47, 48} {
		n := holding(t, count)
		// Another way has packets where this one has none.
		send(t, n, 2, 1, texts(48)...)
		before := all(n)
		for _, i := range []int{-1, -2, -48, -farOff - 1, count, count + 1, count + 48, 1 << 32, farOff} {
			for _, c := range callsOfOne() {
				wantRefused(t, fmt.Sprintf("P7.1: with %d packets", count), n, c, 1, 2, i, api.ErrNone)
			}
		}
		wantAll(t, "R6", "behind calls without a packet", n, before)
	}
}

func TestFirstAndLastPacketAreThere(t *testing.T) {
	for _, count := range []int{1, 2, 5, 47, 48} {
		for _, i := range []int{0, count - 1} {
			for _, c := range callsOfOne()[:6] {
				want := api.OK
				if c.name == "Twice" && count == 48 {
					want = api.ErrFull
				}
				_, e := c.do(holding(t, count), 1, 2, i)
				wantError(t, fmt.Sprintf("P7.1: with %d packets", count), c.told(1, 2, i), e, want)
			}
		}
	}
}

func TestNilNet(t *testing.T) {
	var n *net.Net
	ways := append(wrongWays(), way{0, 1}, way{1, 2}, way{0, 20}, way{20, 0}, way{20, 19})
	for range 2 {
		for _, w := range ways {
			if n.Len(w[0], w[1]) != 0 {
				t.Errorf("P7.1: Len(%d, %d) of a nil net is %d", w[0], w[1], n.Len(w[0], w[1]))
			}
			for _, c := range calls() {
				for _, i := range []int{-1, 0, 1, 48, farOff} {
					wantRefused(t, "P7.1: of a nil net", n, c, w[0], w[1], i, api.ErrArg)
				}
			}
		}
		wantLost(t, "P7.1: of a nil net", n, 0)
		if l := waysOf(n); len(l) != 0 {
			t.Errorf("P7.1: of a nil net the ways %v have packets", l)
		}
	}
}

func TestNewNet(t *testing.T) {
	n := net.New()
	if n == nil {
		t.Fatal("P7.1: New answers nil")
	}
	for from := range 21 {
		for to := range 21 {
			if n.Len(from, to) != 0 {
				t.Errorf("P7.1: a new net's Len(%d, %d) is %d", from, to, n.Len(from, to))
			}
		}
	}
	wantLost(t, "P7.1", n, 0)
	if l := waysOf(n); len(l) != 0 {
		t.Errorf("P7.1: a new net's ways %v have packets", l)
	}
}
