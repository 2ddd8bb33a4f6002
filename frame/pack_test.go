package frame_test

import (
	"bytes"
	"math"
	"slices"
	"strings"
	"testing"

	"confluence/api"
)

func TestExamples(t *testing.T) {
	b := packed(t, api.Frame{Version: 1})
	if len(b) != 21 || b[0] != 1 || strings.Trim(string(b[1:17]), "\x00") != "" {
		t.Errorf("P5.1: Pack of version 1 and nothing else is %x", b)
	}
	wantNotUnpacked(t, "P5.1", append(b, 0), api.ErrForm)
	wantNotUnpacked(t, "P5.1", nil, api.ErrShort)
}

// Frames written out by hand, with sums that a third program told.
func TestFramesByHand(t *testing.T) {
	for _, c := range []struct {
		f    api.Frame
		want string
	}{
		{api.Frame{Version: 1},
			"\x01" + strings.Repeat("\x00", 16) + "\xfe\x3a\x49\x4e"},
		{made(2, 1, 2, 3, []byte("abc")),
			"\x02" + "\x00\x00\x00\x01" + "\x00\x00\x00\x02" + "\x00\x00\x00\x03" + "\x00\x00\x00\x03" + "abc" + "\xd2\xd2\x17\xd1"},
		{made(255, 4294967295, 4294967294, 16909060, []byte{0}),
			"\xff" + "\xff\xff\xff\xff" + "\xff\xff\xff\xfe" + "\x01\x02\x03\x04" + "\x00\x00\x00\x01" + "\x00" + "\x19\xbf\x02\x39"},
		{made(1, 0x01020304, 0x05060708, 0x090a0b0c, []byte("123456789")),
			"\x01" + "\x01\x02\x03\x04" + "\x05\x06\x07\x08" + "\x09\x0a\x0b\x0c" + "\x00\x00\x00\x09" + "123456789" + "\x4e\xde\x86\xfa"},
	} {
		wantPacked(t, "P5.1", c.f, c.want)
		wantUnpacked(t, "P5.1", []byte(c.want), c.f)
		wantRow(t, "P5.1", []byte(c.want), []told{{0, c.f}})
	}
}

func TestPackOfEachVersion(t *testing.T) {
	for version := -300; version <= 600; version++ {
		f := api.Frame{Version: version, Epoch: 5, Seq: 6, Ack: 7, Body: []byte("body")}
		if 1 <= version && version <= 255 {
			wantPacked(t, "P5.1", f, string(refPack(f)))
		} else {
			wantNotPacked(t, "P5.1", f, api.ErrArg)
		}
	}
	for _, version := range []int{math.MinInt, math.MinInt + 1, math.MinInt32, -1<<32 + 1, -255, 257, 1<<8 + 1, 1<<16 + 1, 1<<32 + 1, math.MaxInt} {
		wantNotPacked(t, "P5.1", api.Frame{Version: version}, api.ErrArg)
	}
}

// Each number is set alone, with the others 0 and with the others at their ends.
func TestPackOfEachNumber(t *testing.T) {
	wrong := []int{-1, -2, -256, math.MinInt32, -mostOf, -mostOf - 1, math.MinInt, math.MinInt + 1, mostOf + 1, mostOf + 2, 1 << 33, 1 << 40, 1<<40 + 5, math.MaxInt}
	for _, others := range []int{0, 1, mostOf} {
		for place := range 3 {
			set := func(n int) api.Frame {
				l := []int{others, others, others}
				l[place] = n
				return api.Frame{Version: 1, Epoch: l[0], Seq: l[1], Ack: l[2], Body: []byte("x")}
			}
			for _, n := range ofEachWidth() {
				wantPacked(t, "P5.1", set(n), string(refPack(set(n))))
			}
			for _, n := range wrong {
				wantNotPacked(t, "P5.1", set(n), api.ErrArg)
			}
		}
	}
}

func TestPackOfNumbersTogether(t *testing.T) {
	ends := []int{-1, 0, mostOf, mostOf + 1}
	versions := []int{math.MinInt, -1, 0, 1, 255, 256}
	bodies := [][]byte{nil, {}, {0}, make([]byte, api.MostBody+1)}
	for i := range len(versions) * 4 * 4 * 4 * len(bodies) {
		at := i
		pick := func(count int) int {
			k := at % count
			at /= count
			return k
		}
		f := made(versions[pick(len(versions))], ends[pick(4)], ends[pick(4)], ends[pick(4)], bodies[pick(len(bodies))])
		isNumber := func(n int) bool { return n == 0 || n == mostOf }
		switch {
		case f.Version < 1 || f.Version > 255 || !isNumber(f.Epoch) || !isNumber(f.Seq) || !isNumber(f.Ack):
			wantNotPacked(t, "P5.1 and R6", f, api.ErrArg)
		case len(f.Body) > api.MostBody:
			wantNotPacked(t, "P5.1", f, api.ErrLong)
		default:
			wantPacked(t, "P5.1", f, string(refPack(f)))
		}
	}
}

func TestPackOfEachBody(t *testing.T) {
	n := numbers(11)
	most := n.bytes(1 << 20)
	for _, body := range [][]byte{nil, {}, make([]byte, 0, 9), {0}, {255}, most[:1<<20-1], most, make([]byte, 1<<20)} {
		f := api.Frame{Version: 3, Epoch: 1, Seq: 2, Ack: 3, Body: body}
		wantPacked(t, "P5.1", f, string(refPack(f)))
		wantUnpacked(t, "P5.2", packed(t, f), f)
	}
	for _, size := range []int{1<<20 + 1, 1<<20 + 2, 1 << 21, 1<<24 + 1} {
		wantNotPacked(t, "P5.1", api.Frame{Version: 1, Body: make([]byte, size)}, api.ErrLong)
		wantNotPacked(t, "P5.1", api.Frame{Version: 255, Epoch: mostOf, Seq: mostOf, Ack: mostOf, Body: make([]byte, size)}, api.ErrLong)
	}
}

func TestCountsOfEachWidth(t *testing.T) {
	n := numbers(12)
	body := n.bytes(1 << 17)
	for _, length := range []int{0, 1, 2, 127, 128, 254, 255, 256, 257, 511, 512, 65535, 65536, 65537, 0x010203} {
		f := api.Frame{Version: 1, Body: body[:length]}
		b := packed(t, f)
		if len(b) != 21+length {
			t.Errorf("P5.1: a frame whose body has %d bytes has %d", length, len(b))
		}
		wantPacked(t, "P5.1", f, string(refPack(f)))
		wantUnpacked(t, "P5.2", b, f)
	}
}

// Two frames that differ in one field differ in that field's bytes and the sum's alone.
func TestPlaces(t *testing.T) {
	f := made(1, 2, 3, 4, []byte("body"))
	for _, c := range []struct {
		other      api.Frame
		begin, end int
	}{
		{made(9, 2, 3, 4, []byte("body")), 0, 1},
		{made(1, 0x0a0b0c0d, 3, 4, []byte("body")), 1, 5},
		{made(1, 2, 0x0a0b0c0d, 4, []byte("body")), 5, 9},
		{made(1, 2, 3, 0x0a0b0c0d, []byte("body")), 9, 13},
		{made(1, 2, 3, 4, []byte("WXYZ")), 17, 21},
	} {
		b, other := packed(t, f), packed(t, c.other)
		for at := range 21 {
			if inside := c.begin <= at && at < c.end; (b[at] != other[at]) != inside {
				t.Errorf("P5.1: of %v and %v byte %d is %x and %x", f, c.other, at, b[at], other[at])
			}
		}
		if bytes.Equal(b[21:], other[21:]) {
			t.Errorf("P5.1: %v and %v have one sum %x", f, c.other, b[21:])
		}
	}
}

func TestPackOfManyFrames(t *testing.T) {
	n := numbers(13)
	for range 2000 {
		f := n.frame(n.below(200))
		wantPacked(t, "P5.1", f, string(refPack(f)))
	}
}

func TestPackKeepsNothing(t *testing.T) {
	room := []byte("ahead of it|the body|" + strings.Repeat("behind it, where there is spare room", 3))
	was := slices.Clone(room)
	body := room[12:20]
	f := made(1, 2, 3, 4, body)
	b, again := packed(t, f), packed(t, f)
	want := string(refPack(made(1, 2, 3, 4, []byte("the body"))))
	if !bytes.Equal(room, was) {
		t.Errorf("R3: a body with what is around it is %q behind Pack", room)
	}
	spoil(body)
	if string(b) != want {
		t.Errorf("R3: a frame's bytes are %x, with the body changed behind the call", b)
	}
	copy(room, was)
	spoil(b)
	if string(again) != want || !bytes.Equal(room, was) {
		t.Errorf("R3: with an answer spoilt, another one is %x, and the body %q", again, room)
	}
	wantPacked(t, "R3 and R2", f, want)
}

func TestErrorsOfPackKeepNothing(t *testing.T) {
	room := bytes.Repeat([]byte("abcdefgh"), 1<<17+1)
	was := slices.Clone(room)
	wantNotPacked(t, "P5.1", api.Frame{Version: 0, Body: room[3:9]}, api.ErrArg)
	wantNotPacked(t, "P5.1", api.Frame{Version: 1, Body: room[1 : 1<<20+2]}, api.ErrLong)
	if !bytes.Equal(room, was) {
		t.Error("R3: a body is another one behind a refused Pack")
	}
}
