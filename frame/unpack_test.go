package frame_test

import (
	"bytes"
	"encoding/binary"
	"hash/crc32"
	"slices"
	"strings"
	"sync"
	"testing"

	"confluence/api"
	"confluence/frame"
)

// head is a frame's head with any count.
func head(version byte, count uint32) []byte {
	b := append([]byte{version}, make([]byte, 12)...)
	return binary.BigEndian.AppendUint32(b, count)
}

// withSum puts behind bytes their right sum.
func withSum(b []byte) []byte {
	return binary.LittleEndian.AppendUint32(slices.Clone(b), crc32.ChecksumIEEE(b))
}

func TestUnpackOfNothing(t *testing.T) {
	wantNotUnpacked(t, "P5.1", nil, api.ErrShort)
	wantNotUnpacked(t, "P5.1", []byte{}, api.ErrShort)
	wantNotUnpacked(t, "P5.1", make([]byte, 0, 40), api.ErrShort)
	wantNotUnpacked(t, "P5.1", packed(t, api.Frame{Version: 1})[:0], api.ErrShort)
}

func TestUnpackOfVersionNought(t *testing.T) {
	for length := 1; length <= 60; length++ {
		wantNotUnpacked(t, "P5.1", make([]byte, length), api.ErrForm)
		wantNotUnpacked(t, "P5.1", append([]byte{0}, bytes.Repeat([]byte{255}, length)...), api.ErrForm)
	}
	// All else is right or wrong in some other way.
	wantNotUnpacked(t, "P5.1", withSum(head(0, 0)), api.ErrForm)
	wantNotUnpacked(t, "P5.1", head(0, 0), api.ErrForm)
	wantNotUnpacked(t, "P5.1", head(0, 1<<20+1), api.ErrForm)
	wantNotUnpacked(t, "P5.1", append(head(0, 0), 0, 0, 0, 0), api.ErrForm)
}

func TestUnpackOfFewBytes(t *testing.T) {
	for length := 1; length <= 16; length++ {
		for _, c := range []byte{1, 2, 127, 128, 255} {
			wantNotUnpacked(t, "P5.1", bytes.Repeat([]byte{c}, length), api.ErrShort)
			wantNotUnpacked(t, "P5.1", append([]byte{c}, make([]byte, length-1)...), api.ErrShort)
		}
	}
	// The sixteenth byte would make a count that is too great, were the seventeenth there.
	wantNotUnpacked(t, "P5.1", head(1, 1<<31)[:16], api.ErrShort)
}

func TestUnpackOfGreatCounts(t *testing.T) {
	behind := make([]byte, 1<<20+100)
	for _, count := range []uint32{1<<20 + 1, 1<<20 + 2, 1<<20 + 255, 1 << 21, 1<<24 - 1, 1 << 24, 1<<31 - 1, 1 << 31, 1<<31 + 1, 1<<32 - 1} {
		for _, length := range []int{0, 1, 4, 5, 100, 1<<20 + 100} {
			wantNotUnpacked(t, "P5.1", append(head(1, count), behind[:length]...), api.ErrLong)
		}
	}
	// Else right: it has all its bytes and its sum.
	wantNotUnpacked(t, "P5.1", withSum(append(head(1, 1<<20+1), behind[:1<<20+1]...)), api.ErrLong)
}

func TestUnpackOfTheGreatestCount(t *testing.T) {
	f := api.Frame{Version: 1, Body: bytes.Repeat([]byte("0123456789abcdef"), 1<<16)}
	whole := refPack(f)
	wantUnpacked(t, "P5.1", whole, f)
	for _, length := range []int{17, 18, 20, 21, 22, 1 << 19, 1 << 20, 1<<20 + 17, 1<<20 + 18, 1<<20 + 20} {
		wantNotUnpacked(t, "P5.1 and P5.4", whole[:length], api.ErrShort)
	}
	wantNotUnpacked(t, "P5.1", append(slices.Clone(whole), 7), api.ErrForm)
	whole[len(whole)-5] ^= 4
	wantNotUnpacked(t, "P5.1 and P5.3", whole, api.ErrSum)
}

// What is missing is told ahead of a sum that is another, and that ahead of bytes that are behind.
func TestOrderOfFaults(t *testing.T) {
	f := made(1, 2, 3, 4, []byte("body"))
	for at := 1; at < 25; at++ {
		b := refPack(f)
		if at >= 13 && at < 17 {
			continue
		}
		b[at] ^= 1
		wantNotUnpacked(t, "P5.1", b, api.ErrSum)
		wantNotUnpacked(t, "P5.1 and R6", append(slices.Clone(b), 0), api.ErrSum)
		wantNotUnpacked(t, "P5.1 and R6", append(slices.Clone(b), refPack(f)...), api.ErrSum)
		wantNotUnpacked(t, "P5.1 and R6", b[:24], api.ErrShort)
	}
}

func TestEachByteOfTheSum(t *testing.T) {
	for _, f := range []api.Frame{{Version: 1}, made(255, 1, 2, 3, []byte("abcdefgh"))} {
		b := refPack(f)
		for at := len(b) - 4; at < len(b); at++ {
			was := b[at]
			for turned := 1; turned < 256; turned++ {
				b[at] = was ^ byte(turned)
				wantNotUnpacked(t, "P5.1", b, api.ErrSum)
			}
			b[at] = was
		}
		wantUnpacked(t, "P5.1", b, f)
		slices.Reverse(b[len(b)-4:])
		wantNotUnpacked(t, "P5.1", b, api.ErrSum)
	}
}

func TestBytesBehindAFrame(t *testing.T) {
	for _, f := range sample() {
		b := refPack(f)
		for _, behind := range []string{"\x00", "\x01", "\xff", "\x00\x00\x00\x00", strings.Repeat("\x00", 21), strings.Repeat("\xff", 300), string(b)} {
			wantNotUnpacked(t, "P5.1", append(slices.Clone(b), behind...), api.ErrForm)
		}
	}
}

func TestBackAndForth(t *testing.T) {
	n := numbers(21)
	for _, f := range sample() {
		wantUnpacked(t, "P5.2", packed(t, f), f)
	}
	for length := range 600 {
		f := n.frame(length)
		wantUnpacked(t, "P5.2", packed(t, f), f)
	}
	for _, length := range []int{1023, 1024, 4095, 4096, 65535, 65536, 1<<20 - 1, 1 << 20} {
		f := n.frame(length)
		wantUnpacked(t, "P5.2", packed(t, f), f)
	}
	for _, wide := range ofEachWidth() {
		f := api.Frame{Version: 1, Epoch: wide, Seq: mostOf - wide, Ack: wide ^ 0x5a, Body: n.bytes(3)}
		wantUnpacked(t, "P5.2", packed(t, f), f)
	}
}

// Unlike frames never have the same bytes, and what can be unpacked is packed to just the bytes that it was.
func TestNoOtherBytes(t *testing.T) {
	packedOnce := map[string]int{}
	for i, f := range sample() {
		b := packed(t, f)
		if j, ok := packedOnce[string(b)]; ok {
			t.Errorf("P5.2: %v and frame %d have the same bytes %x", f, j, b)
		}
		packedOnce[string(b)] = i
	}
	n := numbers(22)
	right := 0
	for i := range 40000 {
		b := refPack(n.frame(n.below(8)))
		change(&n, b, i%4)
		b = cutOrLengthen(&n, b, i%7)
		if n.below(2) == 0 && len(b) >= around {
			b = withSum(b[:len(b)-4])
		}
		want, wantE := refUnpack(b)
		f, e := frame.Unpack(b)
		if !same(f, want) || e != wantE {
			t.Errorf("P5.1: Unpack(%x) is %v with error %d, not %v with error %d", b, f, e, want, wantE)
		}
		if e != api.OK {
			continue
		}
		right++
		if back := packed(t, f); !bytes.Equal(back, b) {
			t.Errorf("P5.2: %x is unpacked to %v, which is packed to %x", b, f, back)
		}
	}
	if right < 5000 {
		t.Errorf("of 40000 bytes only %d are frames", right)
	}
}

func change(n *numbers, b []byte, times int) {
	for range times {
		b[n.below(len(b))] = byte(n.below(256))
	}
}

func cutOrLengthen(n *numbers, b []byte, way int) []byte {
	switch way {
	case 0:
		return b[:n.below(len(b)+1)]
	case 1:
		return append(b, n.bytes(n.below(9))...)
	case 2:
		// A count that hangs together with the length again.
		if len(b) >= around {
			binary.BigEndian.PutUint32(b[13:], uint32(len(b)-around))
		}
	}
	return b
}

func TestUnpackOfAnyBytes(t *testing.T) {
	n := numbers(23)
	for i := range 30000 {
		b := n.bytes(n.below(60))
		if i%2 == 0 && len(b) > 16 {
			copy(b[13:], "\x00\x00\x00")
		}
		want, wantE := refUnpack(b)
		if f, e := frame.Unpack(b); !same(f, want) || e != wantE {
			t.Errorf("P5.1 and R1: Unpack(%x) is %v with error %d, not %v with error %d", b, f, e, want, wantE)
		}
	}
}

func TestCutOffAnywhere(t *testing.T) {
	for _, f := range sample() {
		b := packed(t, f)
		for length := range len(b) {
			wantNotUnpacked(t, "P5.4", b[:length], api.ErrShort)
			wantNotUnpacked(t, "P5.4", slices.Clone(b[:length]), api.ErrShort)
		}
	}
	n := numbers(24)
	b := packed(t, n.frame(70000))
	for length := 0; length < len(b); length += 1 + n.below(200) {
		wantNotUnpacked(t, "P5.4", b[:length], api.ErrShort)
	}
}

func TestUnpackKeepsNothing(t *testing.T) {
	want := made(1, 2, 3, 4, []byte("the body"))
	whole := append(append([]byte("ahead of it|"), refPack(want)...), "behind it, where there is spare room"...)
	was := slices.Clone(whole)
	b := whole[12 : 12+29]
	f, e := frame.Unpack(b)
	again, _ := frame.Unpack(b)
	if !bytes.Equal(whole, was) {
		t.Errorf("R3: bytes with what is around them are %q behind Unpack", whole)
	}
	spoil(b)
	if !same(f, want) || e != api.OK {
		t.Errorf("R3: with the bytes changed behind the call, the frame is %v", f)
	}
	copy(whole, was)
	spoil(f.Body)
	_ = append(f.Body[:0], "xxxxxxxxxxxxxxxxxxxxxxxxxxxxxxxxxx"...)
	if !same(again, want) || !bytes.Equal(whole, was) {
		t.Errorf("R3: with an answer's body spoilt, another one is %v, and the bytes %q", again, whole)
	}
	wantUnpacked(t, "R3 and R2", b, want)
}

func TestRefusedBytesStay(t *testing.T) {
	right := refPack(made(1, 2, 3, 4, []byte("body")))
	spoilt := slices.Clone(right)
	spoilt[20] ^= 1
	for _, b := range [][]byte{{}, {0, 9}, {1, 2}, head(1, 1<<20+1), right[:24], spoilt, append(slices.Clone(right), 5)} {
		whole := append(slices.Clone(b), "behind"...)
		was := slices.Clone(whole)
		if f, e := frame.Unpack(whole[:len(b)]); e == api.OK || !same(f, api.Frame{}) {
			t.Errorf("P5.1 and R5: Unpack(%x) is %v with error %d", b, f, e)
		}
		if !bytes.Equal(whole, was) {
			t.Errorf("R3: refused bytes are %x, and were %x", whole, was)
		}
	}
}

func TestCallsAtOneTime(t *testing.T) {
	f := made(1, 2, 3, 4, []byte("the body"))
	b := refPack(f)
	row := frame.Scan(append(slices.Clone(b), b...))
	var readers sync.WaitGroup
	for range 8 {
		readers.Go(func() {
			for range 50 {
				wantPacked(t, "R2", f, string(b))
				wantUnpacked(t, "R2", b, f)
				for _, g := range row {
					if !same(g, f) {
						t.Errorf("R2: beside others that range over it, the row tells %v", g)
					}
					spoil(g.Body)
				}
			}
		})
	}
	readers.Wait()
}
