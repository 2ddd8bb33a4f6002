package frame_test

import (
	"encoding/binary"
	"hash/crc32"
	"math"
	"slices"
	"testing"

	"confluence/api"
	"confluence/frame"
)

const (
	headSize = 17
	// around is how many bytes a frame has beside its body's.
	around = 21
	mostOf = 1<<32 - 1
)

// numbers is a row of numbers that is the same each time.
type numbers uint64

func (n *numbers) next() uint64 {
	*n = *n*6364136223846793005 + 1442695040888963407
	x := uint64(*n)
	return (x ^ x>>29) * 0x9e3779b97f4a7c15
}

func (n *numbers) below(bound int) int { return int(n.next() >> 12 % uint64(bound)) }

func (n *numbers) bytes(length int) []byte {
	b := make([]byte, length)
	for i := range b {
		b[i] = byte(n.next() >> 17)
	}
	return b
}

// ofAnyWidth is a number of few bits as often as one of many.
func (n *numbers) ofAnyWidth() int { return int(n.next() >> 32 >> n.below(32)) }

func (n *numbers) frame(length int) api.Frame {
	return api.Frame{Version: 1 + n.below(255), Epoch: n.ofAnyWidth(), Seq: n.ofAnyWidth(), Ack: n.ofAnyWidth(), Body: n.bytes(length)}
}

// ofEachWidth is numbers of 1, 2, 3 and 4 bytes, at the borders between them too, and some whose bytes all differ.
func ofEachWidth() []int {
	return []int{0, 1, 127, 128, 255, 256, 257, 0x0102, 65535, 65536, 0x010203, 1<<24 - 1, 1 << 24, 0x01020304, 1<<31 - 1, 1 << 31, 0xfffefdfc, mostOf - 1, mostOf}
}

// refPack is a right frame's bytes, by the library's ways of writing numbers and sums.
func refPack(f api.Frame) []byte {
	b := []byte{byte(f.Version)}
	for _, n := range []int{f.Epoch, f.Seq, f.Ack, len(f.Body)} {
		b = binary.BigEndian.AppendUint32(b, uint32(n))
	}
	b = append(b, f.Body...)
	return binary.LittleEndian.AppendUint32(b, crc32.ChecksumIEEE(b))
}

// refFirst is the frame at the front of bytes with its size, or what is first wrong with it.
func refFirst(b []byte) (api.Frame, int, api.Errno) {
	count := uint32(0)
	if len(b) >= headSize {
		count = binary.BigEndian.Uint32(b[13:])
	}
	size := around + int(count)
	switch {
	case len(b) == 0:
		return api.Frame{}, 0, api.ErrShort
	case b[0] == 0:
		return api.Frame{}, 0, api.ErrForm
	case len(b) < headSize:
		return api.Frame{}, 0, api.ErrShort
	case count > 1048576:
		return api.Frame{}, 0, api.ErrLong
	case len(b) < size:
		return api.Frame{}, 0, api.ErrShort
	case binary.LittleEndian.Uint32(b[size-4:]) != crc32.ChecksumIEEE(b[:size-4]):
		return api.Frame{}, 0, api.ErrSum
	}
	number := func(i int) int { return int(binary.BigEndian.Uint32(b[1+4*i:])) }
	return made(int(b[0]), number(0), number(1), number(2), slices.Clone(b[headSize:size-4])), size, api.OK
}

func refUnpack(b []byte) (api.Frame, api.Errno) {
	f, size, e := refFirst(b)
	if e == api.OK && size < len(b) {
		return api.Frame{}, api.ErrForm
	}
	return f, e
}

func made(version, epoch, seq, ack int, body []byte) api.Frame {
	return api.Frame{Version: version, Epoch: epoch, Seq: seq, Ack: ack, Body: body}
}

// told is a frame of a row, and where it begins.
type told struct {
	begin int
	f     api.Frame
}

func refScan(b []byte) []told {
	var row []told
	begin := 0
	for {
		f, size, e := refFirst(b[begin:])
		if e != api.OK {
			return row
		}
		row = append(row, told{begin, f})
		begin += size
	}
}

func same(a, b api.Frame) bool {
	return a.Version == b.Version && a.Epoch == b.Epoch && a.Seq == b.Seq && a.Ack == b.Ack && slices.Equal(a.Body, b.Body)
}

func sameRow(a, b []told) bool {
	return slices.EqualFunc(a, b, func(x, y told) bool { return x.begin == y.begin && same(x.f, y.f) })
}

// short keeps what a test tells of great bodies to a size that can be read.
func short(b []byte) []byte { return b[:min(len(b), 80)] }

func brief(f api.Frame) api.Frame {
	f.Body = short(f.Body)
	return f
}

func wantPacked(t *testing.T, promise string, f api.Frame, want string) {
	t.Helper()
	if b, e := frame.Pack(f); string(b) != want || e != api.OK {
		t.Errorf("%s: Pack(%v) is %x (%d bytes) with error %d, not %x (%d bytes)", promise, brief(f), short(b), len(b), e, short([]byte(want)), len(want))
	}
}

func wantNotPacked(t *testing.T, promise string, f api.Frame, want api.Errno) {
	t.Helper()
	b, e := frame.Pack(f)
	if e != want {
		t.Errorf("%s: Pack(%v) of %d bytes has error %d, not %d", promise, brief(f), len(f.Body), e, want)
	}
	if len(b) != 0 {
		t.Errorf("R5: Pack(%v) of %d bytes is %x beside error %d", brief(f), len(f.Body), short(b), e)
	}
}

func wantUnpacked(t *testing.T, promise string, b []byte, want api.Frame) {
	t.Helper()
	if f, e := frame.Unpack(b); !same(f, want) || e != api.OK {
		t.Errorf("%s: Unpack(%x) of %d bytes is %v with error %d, not %v", promise, short(b), len(b), brief(f), e, brief(want))
	}
}

func wantNotUnpacked(t *testing.T, promise string, b []byte, want api.Errno) {
	t.Helper()
	f, e := frame.Unpack(b)
	if e != want {
		t.Errorf("%s: Unpack(%x) of %d bytes has error %d, not %d", promise, short(b), len(b), e, want)
	}
	if !same(f, api.Frame{}) {
		t.Errorf("R5: Unpack(%x) of %d bytes is %v beside error %d", short(b), len(b), brief(f), e)
	}
}

func scanned(b []byte) []told {
	var row []told
	for begin, f := range frame.Scan(b) {
		row = append(row, told{begin, f})
	}
	return row
}

func wantRow(t *testing.T, promise string, b []byte, want []told) {
	t.Helper()
	if got := scanned(b); !sameRow(got, want) {
		t.Errorf("%s: Scan(%x) of %d bytes tells %v, not %v", promise, short(b), len(b), got, want)
	}
}

// packed is for frames that are right.
func packed(t *testing.T, f api.Frame) []byte {
	t.Helper()
	b, e := frame.Pack(f)
	if e != api.OK {
		t.Fatalf("P5.1: Pack(%v) of %d bytes has error %d", brief(f), len(f.Body), e)
	}
	return b
}

// spoil overwrites bytes with their spare room.
func spoil(b []byte) {
	b = b[:cap(b)]
	for i := range b {
		b[i] ^= 0xa5
	}
}

// sample is right frames of many kinds, none of them long.
func sample() []api.Frame {
	l := []api.Frame{
		{Version: 1},
		{Version: 2, Epoch: 1, Seq: 2, Ack: 3, Body: []byte("abc")},
		{Version: 255, Epoch: mostOf, Seq: mostOf, Ack: mostOf, Body: []byte{255}},
		{Version: 1, Body: make([]byte, 9)},
		{Version: 128, Epoch: 1 << 31, Seq: 1 << 16, Ack: 1 << 24, Body: slices.Repeat([]byte{255}, 40)},
		{Version: 1, Epoch: math.MaxInt32, Body: []byte("\x01\x00\x00\x00\x00")},
	}
	n := numbers(5)
	for length := range 70 {
		l = append(l, n.frame(length))
	}
	return l
}
