package frame_test

import (
	"bytes"
	"encoding/binary"
	"slices"
	"testing"

	"confluence/api"
	"confluence/frame"
)

// turn turns the bits of a pattern, from a bit on; each byte's lowest bit is its first.
func turn(b []byte, bit int, pattern uint32) {
	for i := range 32 {
		if at := bit + i; pattern>>i&1 == 1 {
			b[at/8] ^= 1 << (at % 8)
		}
	}
}

// wantRefused turns bits, asks and turns them back.
func wantRefused(t *testing.T, b []byte, bit int, pattern uint32) {
	t.Helper()
	turn(b, bit, pattern)
	if f, e := frame.Unpack(b); e == api.OK || !same(f, api.Frame{}) {
		t.Errorf("P5.3: Unpack(%x), of which bits %x from bit %d on are turned, is %v with error %d", short(b), pattern, bit, brief(f), e)
	}
	turn(b, bit, pattern)
}

// patterns is rows of 1 to 32 bits whose first and last are turned: all short ones, and of the longer ones the emptiest, the fullest and some between.
func patterns() []uint32 {
	var l []uint32
	for short := uint32(1); short < 1<<9; short += 2 {
		l = append(l, short)
	}
	n := numbers(31)
	for width := 10; width <= 32; width++ {
		ends := uint32(1) | 1<<(width-1)
		l = append(l, ends, 1<<width-1)
		for range 4 {
			l = append(l, ends|uint32(n.next())&(1<<(width-1)-1))
		}
	}
	return l
}

// width is how many bits a pattern spans.
func width(pattern uint32) int {
	w := 0
	for ; pattern != 0; pattern >>= 1 {
		w++
	}
	return w
}

func TestTurnedBits(t *testing.T) {
	n := numbers(32)
	all := patterns()
	for _, f := range []api.Frame{
		{Version: 1},
		{Version: 255, Epoch: mostOf, Seq: mostOf, Ack: mostOf, Body: []byte{255, 255}},
		made(2, 1, 2, 3, []byte("a")),
		n.frame(3), n.frame(4), n.frame(5), n.frame(9), n.frame(64),
	} {
		b := refPack(f)
		for bit := range 8 * len(b) {
			for _, pattern := range all {
				if bit+width(pattern) <= 8*len(b) {
					wantRefused(t, b, bit, pattern)
				}
			}
		}
		wantUnpacked(t, "P5.2", b, f)
	}
}

func TestTurnedBitsOfLongFrames(t *testing.T) {
	n := numbers(33)
	for _, length := range []int{255, 256, 1000, 5000} {
		b := refPack(n.frame(length))
		for range 400 {
			pattern := 1 | uint32(n.next()>>32)>>n.below(32)
			wantRefused(t, b, n.below(8*len(b)-width(pattern)+1), pattern)
		}
	}
}

func TestTurnedBitsOfTheLongestFrame(t *testing.T) {
	n := numbers(34)
	b := refPack(n.frame(1 << 20))
	last := 8*len(b) - 32
	for _, bit := range []int{0, 5, 8 * 11, 8*13 + 3, 8*17 - 1, 8*17 - 31, 8 * 17, 8*17 + 1, 8 << 19, last - 33, last - 31, last - 1, last} {
		wantRefused(t, b, bit, 1|1<<31|uint32(n.next()))
		wantRefused(t, b, bit, 1)
	}
}

// A count that is turned to a smaller one may leave a right frame at the front; the bytes behind it are what refuses it.
func TestTurnedCountWithARightFrameAtTheFront(t *testing.T) {
	front := withSum(append(head(1, 2), "ab"...))
	whole := refPack(api.Frame{Version: 1, Body: append(slices.Clone(front[17:]), "rest"...)})
	count := binary.BigEndian.Uint32(whole[13:])
	if count != 10 {
		t.Fatalf("the count is %d", count)
	}
	whole[16] ^= 10 ^ 2
	if !bytes.HasPrefix(whole, front) {
		t.Fatalf("%x doesn't begin with %x", whole, front)
	}
	wantNotUnpacked(t, "P5.3", whole, api.ErrForm)
}

// A count that is turned to a greater one is short of bytes, or too great.
func TestTurnedCountToAGreaterOne(t *testing.T) {
	b := refPack(api.Frame{Version: 1, Body: []byte("abc")})
	for bit := 2; bit < 32; bit++ {
		whole := slices.Clone(b)
		binary.BigEndian.PutUint32(whole[13:], 3|1<<bit)
		want := api.ErrShort
		if bit >= 20 {
			want = api.ErrLong
		}
		wantNotUnpacked(t, "P5.3", whole, want)
	}
}
