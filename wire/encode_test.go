package wire_test

import (
	"bytes"
	"math"
	"slices"
	"strings"
	"testing"

	"confluence/api"
	"confluence/wire"
)

// wantBody holds Encode and Decode to a message and its body.
func wantBody(t *testing.T, promise string, version int, m api.Msg, want string) {
	t.Helper()
	if b, e := wire.Encode(version, m); string(b) != want || e != api.OK {
		t.Errorf("%s: Encode(%d, %v) is %x with error %d, not %x", promise, version, m, b, e, want)
	}
	if got, e := wire.Decode(version, []byte(want)); !same(got, m) || e != api.OK {
		t.Errorf("%s: Decode(%d, %x) is %v with error %d, not %v", promise, version, want, got, e, m)
	}
}

func TestExamples(t *testing.T) {
	m := api.Msg{Kind: 12, Id: 5}
	wantBody(t, "P4.1", 2, m, "\x0c\x01\x05")
	wantBody(t, "P4.1", 1, m, "\x0c"+strings.Repeat("\x00", 7)+"\x05"+strings.Repeat("\x00", 27))
	if got := wire.Agree(api.Elder, api.Newer); got != 0 {
		t.Errorf("P4.1: Agree(Elder, Newer) is %d, not 0", got)
	}
	if got, e := wire.Decode(2, []byte{0x0c, 1, 0}); !same(got, api.Msg{}) || e != api.ErrForm {
		t.Errorf("P4.1: Decode(2, 0c0100) is %v with error %d, not nothing with error %d", got, e, api.ErrForm)
	}
}

// Bodies written out by hand, so that they hang on nothing that the tests share.
func TestBodiesByHand(t *testing.T) {
	m := api.Msg{
		Kind: 18, Id: 258, N: 128, TS: math.MaxUint64, Lo: "a", Hi: "bc",
		Vers: []api.Ver{{Key: "k", Val: "vw", TS: 300, DC: 3, Tx: 1 << 30}, {Key: "l", Gone: true, TS: 299, Tx: 1}},
		Vec:  []uint64{0, 513}, Cmd: api.Cmd{Kind: 3, DC: 1, Shard: 2, Node: 4, Mode: 255, Key: "m"},
	}
	wantBody(t, "P4.1", 1, m, "\x12"+
		"\x00\x00\x00\x00\x00\x00\x01\x02"+"\x00\x00\x00\x00\x00\x00\x00\x80"+"\xff\xff\xff\xff\xff\xff\xff\xff"+
		"\x01a"+"\x02bc"+"\x00\x02"+
		"\x01k"+"\x02vw"+"\x00"+"\x00\x00\x00\x00\x00\x00\x01\x2c"+"\x03"+"\x40\x00\x00\x00"+
		"\x01l"+"\x00"+"\x01"+"\x00\x00\x00\x00\x00\x00\x01\x2b"+"\x00"+"\x00\x00\x00\x01"+
		"\x02"+"\x00\x00\x00\x00\x00\x00\x00\x00"+"\x00\x00\x00\x00\x00\x00\x02\x01"+
		"\x03\x01\x02\x04\xff"+"\x01m")
	wantBody(t, "P4.1", 2, m, "\x12\xff"+
		"\x82\x02"+"\x80\x01"+"\xff\xff\xff\xff\xff\xff\xff\xff\xff\x01"+
		"\x01a"+"\x02bc"+"\x02"+
		"\x01k"+"\x02vw"+"\x00"+"\xac\x02"+"\x03"+"\x80\x80\x80\x80\x04"+
		"\x01l"+"\x00"+"\x01"+"\xff\xff\xff\xff\xff\xff\xff\xff\xff\x01"+"\x00"+"\x01"+
		"\x02"+"\x00"+"\x81\x04"+
		"\x03\x01\x02\x04\xff\x01"+"\x01m")
}

func TestEachPartAlone(t *testing.T) {
	parts := []struct {
		m    api.Msg
		want string
	}{
		{api.Msg{}, "\x00"},
		{api.Msg{Id: 1}, "\x01\x01"},
		{api.Msg{N: 1}, "\x02\x01"},
		{api.Msg{TS: 1}, "\x04\x01"},
		{api.Msg{Lo: "\x00"}, "\x08\x01\x00"},
		{api.Msg{Hi: "\x00"}, "\x10\x01\x00"},
		{api.Msg{Vers: []api.Ver{{}}}, "\x20\x01\x00\x00\x00\x00\x00\x00"},
		{api.Msg{Vec: []uint64{0}}, "\x40\x01\x00"},
		{api.Msg{Cmd: api.Cmd{Kind: 1}}, "\x80\x01\x00\x00\x00\x00\x00"},
		{api.Msg{Cmd: api.Cmd{DC: 1}}, "\x80\x00\x01\x00\x00\x00\x00"},
		{api.Msg{Cmd: api.Cmd{Shard: 1}}, "\x80\x00\x00\x01\x00\x00\x00"},
		{api.Msg{Cmd: api.Cmd{Node: 1}}, "\x80\x00\x00\x00\x01\x00\x00"},
		{api.Msg{Cmd: api.Cmd{Mode: 1}}, "\x80\x00\x00\x00\x00\x01\x00"},
		{api.Msg{Cmd: api.Cmd{Key: "\x00"}}, "\x80\x00\x00\x00\x00\x00\x01\x00"},
	}
	for _, part := range parts {
		part.m.Kind = 26
		wantBody(t, "P4.1", 2, part.m, "\x1a"+part.want)
	}
	for bits := range 256 {
		b, e := wire.Encode(2, partsOf(bits))
		if e != api.OK || len(b) < 2 || b[0] != 26 || int(b[1]) != bits {
			t.Errorf("P4.1: the body by version 2 of a message with the parts %08b alone is %x with error %d", bits, b, e)
		}
	}
}

func TestVersionsTellTheirDifference(t *testing.T) {
	const end = "\x00\x00"
	for _, c := range []struct {
		times []uint64
		want  []string
	}{
		{[]uint64{0}, []string{"\x00"}},
		{[]uint64{5, 7, 200}, []string{"\x05", "\x02", "\xc1\x01"}},
		{[]uint64{9, 9, 9}, []string{"\x09", "\x00", "\x00"}},
		{[]uint64{9, 8}, []string{"\x09", "\xff\xff\xff\xff\xff\xff\xff\xff\xff\x01"}},
		{[]uint64{1, 0, 1}, []string{"\x01", "\xff\xff\xff\xff\xff\xff\xff\xff\xff\x01", "\x01"}},
		{[]uint64{math.MaxUint64, 0}, []string{"\xff\xff\xff\xff\xff\xff\xff\xff\xff\x01", "\x01"}},
		{[]uint64{0, math.MaxUint64, 4}, []string{"\x00", "\xff\xff\xff\xff\xff\xff\xff\xff\xff\x01", "\x05"}},
		{[]uint64{1 << 63, 0, 1 << 63}, []string{"\x80\x80\x80\x80\x80\x80\x80\x80\x80\x01", "\x80\x80\x80\x80\x80\x80\x80\x80\x80\x01", "\x80\x80\x80\x80\x80\x80\x80\x80\x80\x01"}},
	} {
		m, want := api.Msg{Kind: 1}, "\x01\x20"+string(rune(len(c.times)))
		for i, ts := range c.times {
			m.Vers = append(m.Vers, api.Ver{TS: ts})
			want += "\x00\x00\x00" + c.want[i] + end
		}
		wantBody(t, "P4.1", 2, m, want)
	}
}

func TestBodiesOfTheSample(t *testing.T) {
	for _, m := range append(sample(), fullest()) {
		if e := wire.Check(m); e != api.OK {
			t.Errorf("P4.1: Check(%v) is error %d", m, e)
		}
		for _, version := range versions {
			ahead := clone(m)
			b, e := wire.Encode(version, m)
			if !bytes.Equal(b, refEncode(version, m)) || e != api.OK {
				t.Errorf("P4.1: Encode(%d, %v) is %x with error %d", version, m, b, e)
			}
			if !same(m, ahead) {
				t.Errorf("R3: Encode(%d) made %v of %v", version, m, ahead)
			}
			body := slices.Clone(b)
			back, e := wire.Decode(version, b)
			if !same(back, m) || e != api.OK {
				t.Errorf("P4.2: Decode(%d, %x) is %v with error %d, not %v", version, b, back, e, m)
			}
			if !bytes.Equal(b, body) {
				t.Errorf("R3: Decode(%d) made %x of %x", version, b, body)
			}
		}
	}
}

func TestOneBodyForEachMessage(t *testing.T) {
	messages := sample()
	for _, version := range versions {
		seen := map[string]api.Msg{}
		for _, m := range messages {
			b, _ := wire.Encode(version, m)
			if other, there := seen[string(b)]; there && !same(other, m) {
				t.Errorf("P4.2: by version %d the body %x is that of %v and of %v", version, b, other, m)
			}
			seen[string(b)] = m
		}
	}
}

// Each field alone is another one: no two messages have one body.
func TestEachFieldIsTold(t *testing.T) {
	changes := []func(*api.Msg){
		func(m *api.Msg) { m.Kind-- }, func(m *api.Msg) { m.Id-- }, func(m *api.Msg) { m.N++ }, func(m *api.Msg) { m.TS ^= 1 << 63 },
		func(m *api.Msg) { m.Lo += "\x00" }, func(m *api.Msg) { m.Hi = "" }, func(m *api.Msg) { m.Lo, m.Hi = m.Hi, m.Lo },
		func(m *api.Msg) { m.Vers = m.Vers[1:] }, func(m *api.Msg) { m.Vers = append(m.Vers, api.Ver{}) },
		func(m *api.Msg) { m.Vers[0].Key = "keyv" }, func(m *api.Msg) { m.Vers[0].Val = "alue" }, func(m *api.Msg) { m.Vers[0].Gone = false },
		func(m *api.Msg) { m.Vers[1].TS++ }, func(m *api.Msg) { m.Vers[2].DC-- }, func(m *api.Msg) { m.Vers[2].Tx-- },
		func(m *api.Msg) { m.Vers[0], m.Vers[1] = m.Vers[1], m.Vers[0] },
		func(m *api.Msg) { m.Vec = m.Vec[:3] }, func(m *api.Msg) { m.Vec = append(m.Vec, 0) }, func(m *api.Msg) { m.Vec[0]++ },
		func(m *api.Msg) { m.Cmd.Kind++ }, func(m *api.Msg) { m.Cmd.DC++ }, func(m *api.Msg) { m.Cmd.Shard++ }, func(m *api.Msg) { m.Cmd.Node++ },
		func(m *api.Msg) { m.Cmd.Mode-- }, func(m *api.Msg) { m.Cmd.Key = "n" }, func(m *api.Msg) { m.Cmd = api.Cmd{} },
	}
	for _, version := range versions {
		plain, _ := wire.Encode(version, whole())
		for i, change := range changes {
			m := clone(whole())
			change(&m)
			b, e := wire.Encode(version, m)
			if e != api.OK || bytes.Equal(b, plain) {
				t.Errorf("P4.2: change %d leaves the body by version %d at %x, with error %d", i, version, b, e)
			}
		}
	}
}

func TestEncodeAnswersNewMemory(t *testing.T) {
	for _, version := range versions {
		for _, m := range sample()[:40] {
			first, _ := wire.Encode(version, m)
			second, _ := wire.Encode(version, m)
			want := slices.Clone(second)
			spoil(first[:cap(first)])
			if !bytes.Equal(second, want) || !bytes.Equal(second, refEncode(version, m)) {
				t.Errorf("R3: two bodies by version %d share memory", version)
			}
			if third, _ := wire.Encode(version, m); !bytes.Equal(third, want) {
				t.Errorf("R3: a body by version %d shares memory with what is kept", version)
			}
		}
	}
}

// spoil turns all bits of all bytes.
func spoil(b []byte) {
	for i := range b {
		b[i] = ^b[i]
	}
}

func TestListsOfNothing(t *testing.T) {
	none := api.Msg{Kind: 1}
	empty := api.Msg{Kind: 1, Vers: []api.Ver{}, Vec: []uint64{}}
	room := api.Msg{Kind: 1, Vers: make([]api.Ver, 0, 3), Vec: make([]uint64, 0, 3)}
	for _, m := range []api.Msg{none, empty, room} {
		if e := wire.Check(m); e != api.OK {
			t.Errorf("R4: Check(%#v) is error %d", m, e)
		}
		wantBody(t, "R4", 1, m, "\x01"+strings.Repeat("\x00", 35))
		wantBody(t, "R4", 2, m, "\x01\x00")
	}
	for _, version := range versions {
		for _, body := range [][]byte{nil, {}} {
			if m, e := wire.Decode(version, body); !same(m, api.Msg{}) || e != api.ErrShort {
				t.Errorf("R4: Decode(%d, nothing) is %v with error %d, not nothing with error %d", version, m, e, api.ErrShort)
			}
		}
	}
}
