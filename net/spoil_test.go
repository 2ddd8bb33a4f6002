package net_test

import (
	"fmt"
	"testing"

	"confluence/api"
	"confluence/net"
)

// turned is a text of which one byte is put together with a mask.
func turned(text string, at int, mask byte) string {
	b := []byte(text)
	b[at] = (b[at] | mask) &^ (b[at] & mask)
	return string(b)
}

func TestSpoilEachPlace(t *testing.T) {
	for _, s := range []string{"x", "xy", "five!", string(allBytes())} {
		for at := range len(s) {
			for _, mask := range []byte{1, 2, 0x80, 0x55, 255} {
				n := net.New()
				send(t, n, 1, 2, "ahead", s, "behind", s)
				told := fmt.Sprintf("Spoil at %d of %v with %d", at, packet{text: s}, mask)
				wantError(t, "P7.1", told, n.Spoil(1, 2, 1, at, mask), api.OK)
				wantRow(t, "P7.1: behind "+told, n, 1, 2, []packet{{"ahead", false}, {turned(s, at, mask), true}, {"behind", false}, {s, false}})
				wantLost(t, "P7.1", n, 0)
			}
		}
	}
}

func TestSpoilWithEachMask(t *testing.T) {
	for mask := 1; mask < 256; mask++ {
		n := net.New()
		send(t, n, 1, 2, "some bytes")
		wantError(t, "P7.1", fmt.Sprint("Spoil with ", mask), n.Spoil(1, 2, 0, 4, byte(mask)), api.OK)
		wantRow(t, "P7.1", n, 1, 2, []packet{{turned("some bytes", 4, byte(mask)), true}})
	}
}

func TestSpoilAtNoPlace(t *testing.T) {
	for _, s := range []string{"", "x", "xy", "five!", string(allBytes())} {
		n := net.New()
		send(t, n, 1, 2, "a packet that is longer than the next one", s, "another long packet")
		before := all(n)
		for _, at := range []int{-1, -2, -farOff - 1, len(s), len(s) + 1, 1 << 32, farOff} {
			for _, mask := range []byte{0, 1, 255} {
				told := fmt.Sprintf("Spoil at %d of %v with %d", at, packet{text: s}, mask)
				wantError(t, "P7.1", told, n.Spoil(1, 2, 1, at, mask), api.ErrArg)
			}
		}
		for at := range len(s) {
			wantError(t, "P7.1", "Spoil with mask 0", n.Spoil(1, 2, 1, at, 0), api.ErrArg)
		}
		wantAll(t, "R6", "behind a Spoil that is refused", n, before)
		if s != "" {
			wantError(t, "P7.1", "Spoil at the last place", n.Spoil(1, 2, 1, len(s)-1, 255), api.OK)
		}
	}
}

func TestSpoilOfWhatIsSpoilt(t *testing.T) {
	n := net.New()
	send(t, n, 1, 2, "five!", "other")
	wantError(t, "P7.1", "Spoil", n.Spoil(1, 2, 0, 2, 1), api.OK)
	before := all(n)
	for at := range 5 {
		for _, mask := range []byte{1, 2, 255} {
			wantError(t, "P7.1", fmt.Sprintf("another Spoil at %d with %d", at, mask), n.Spoil(1, 2, 0, at, mask), api.ErrThere)
		}
		wantError(t, "R6", "another Spoil with mask 0", n.Spoil(1, 2, 0, at, 0), api.ErrArg)
	}
	for _, at := range []int{-1, 5, 6, farOff, -farOff - 1} {
		for _, mask := range []byte{0, 1, 255} {
			wantError(t, "R6", fmt.Sprintf("another Spoil at %d with %d", at, mask), n.Spoil(1, 2, 0, at, mask), api.ErrArg)
		}
	}
	for _, i := range []int{-1, 2, farOff} {
		wantError(t, "R6", fmt.Sprintf("Spoil of %d with mask 0", i), n.Spoil(1, 2, i, -1, 0), api.ErrNone)
	}
	wantAll(t, "R6", "behind a Spoil that is refused", n, before)
	wantError(t, "P7.1", "Spoil of the other one", n.Spoil(1, 2, 1, 2, 1), api.OK)
}

// What is spoilt stays so, wherever it goes on its way, and what isn't can be spoilt there.
func TestSpoiltGoesWithThePacket(t *testing.T) {
	n := net.New()
	send(t, n, 1, 2, "aaa", "bbb", "ccc")
	wantError(t, "P7.1", "Spoil", n.Spoil(1, 2, 1, 0, 'b'^'B'), api.OK)
	wantError(t, "P7.1", "Lose", n.Lose(1, 2, 0), api.OK)
	wantError(t, "P7.1", "Spoil of a spoilt one that is the first now", n.Spoil(1, 2, 0, 1, 1), api.ErrThere)
	wantError(t, "P7.1", "Back", n.Back(1, 2, 0), api.OK)
	wantError(t, "P7.1", "Spoil of a spoilt one that is the last now", n.Spoil(1, 2, 1, 1, 1), api.ErrThere)
	wantError(t, "P7.1", "Spoil where a spoilt one was", n.Spoil(1, 2, 0, 2, 'c'^'C'), api.OK)
	wantRow(t, "P7.1", n, 1, 2, []packet{{"ccC", true}, {"Bbb", true}})
	p, e := n.Take(1, 2, 1)
	wantPacket(t, "P7.1", "Take", p, e, packet{"Bbb", true})
	// The place of what is gone doesn't make spoilt what comes there.
	send(t, n, 1, 2, "ddd")
	wantRow(t, "P7.1", n, 1, 2, []packet{{"ccC", true}, {"ddd", false}})
	wantError(t, "P7.1", "Spoil", n.Spoil(1, 2, 1, 0, 1), api.OK)
}

// A packet and its twin: what becomes of the one isn't seen in the other.
func TestSpoilOfTwins(t *testing.T) {
	for which := range 2 {
		n := net.New()
		send(t, n, 1, 2, "twin")
		wantError(t, "P7.1", "Twice", n.Twice(1, 2, 0), api.OK)
		want := whole("twin", "twin")
		for _, i := range []int{which, 1 - which} {
			wantError(t, "P7.3", fmt.Sprintf("Spoil of twin %d", i), n.Spoil(1, 2, i, i, 0x20), api.OK)
			want[i] = packet{turned("twin", i, 0x20), true}
			wantRow(t, "P7.3", n, 1, 2, want)
		}
	}
}

func TestTwiceOfWhatIsSpoilt(t *testing.T) {
	n := net.New()
	send(t, n, 1, 2, "twin", "other")
	wantError(t, "P7.1", "Spoil", n.Spoil(1, 2, 0, 0, 't'^'T'), api.OK)
	wantError(t, "P7.1", "Twice", n.Twice(1, 2, 0), api.OK)
	wantError(t, "P7.1", "Twice of a twin", n.Twice(1, 2, 2), api.OK)
	want := []packet{{"Twin", true}, {"other", false}, {"Twin", true}, {"Twin", true}}
	wantRow(t, "P7.1", n, 1, 2, want)
	for _, i := range []int{0, 2, 3} {
		wantError(t, "P7.1", fmt.Sprint("Spoil of twin ", i), n.Spoil(1, 2, i, 1, 1), api.ErrThere)
		wantError(t, "R6", fmt.Sprint("Spoil of twin ", i), n.Spoil(1, 2, i, 4, 1), api.ErrArg)
	}
	wantRow(t, "P7.1", n, 1, 2, want)
	p, e := n.Take(1, 2, 0)
	wantPacket(t, "P7.1", "Take of a twin", p, e, packet{"Twin", true})
	spoil(p.Bytes)
	wantRow(t, "P7.3", n, 1, 2, want[1:])
}
