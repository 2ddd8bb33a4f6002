package wire_test

import (
	"bytes"
	"fmt"
	"math"
	"slices"
	"strings"
	"sync"
	"testing"

	"confluence/api"
	"confluence/wire"
)

// wantNoMessage holds Decode, and Turn to both versions, to an error.
func wantNoMessage(t *testing.T, what string, version int, body []byte, want api.Errno) {
	t.Helper()
	ahead := slices.Clone(body)
	m, e := wire.Decode(version, body)
	if e != want {
		t.Errorf("P4.1: %s: Decode(%d, %x) is error %d, not %d", what, version, body, e, want)
	}
	if !same(m, api.Msg{}) {
		t.Errorf("R5: %s: Decode(%d, %x) is %v beside error %d", what, version, body, m, e)
	}
	for _, to := range append(versions, 0, 3) {
		if b, e := wire.Turn(version, to, body); len(b) != 0 || e != want {
			t.Errorf("P4.1: %s: Turn(%d, %d, %x) is %x with error %d, not nothing with error %d", what, version, to, body, b, e, want)
		}
	}
	if !bytes.Equal(body, ahead) {
		t.Errorf("R3: %s: Decode or Turn made %x of %x", what, body, ahead)
	}
}

// wantAsReferred holds Decode to what the reference reads.
func wantAsReferred(t *testing.T, what string, version int, body []byte) {
	t.Helper()
	want, wantError := refDecode(version, body)
	got, e := wire.Decode(version, body)
	if !same(got, want) || e != wantError {
		t.Errorf("P4.1: %s: Decode(%d, %x) is %v with error %d, not %v with error %d", what, version, body, got, e, want, wantError)
	}
	if e != api.OK {
		return
	}
	if b, e := wire.Encode(version, got); !bytes.Equal(b, body) || e != api.OK {
		t.Errorf("P4.2: %s: %x is read by version %d as the message whose body is %x", what, body, version, b)
	}
}

func TestBodiesCutOff(t *testing.T) {
	n := numbers(6)
	for range 60 {
		m := n.msg()
		for _, version := range versions {
			cutEverywhere(t, version, refEncode(version, m))
		}
	}
	for _, version := range versions {
		cutEverywhere(t, version, refEncode(version, whole()))
	}
}

func cutEverywhere(t *testing.T, version int, body []byte) {
	t.Helper()
	for end := range body {
		// With the rest in its spare room, and without.
		wantNoMessage(t, "cut off", version, body[:end], api.ErrShort)
		wantNoMessage(t, "cut off", version, slices.Clone(body[:end]), api.ErrShort)
	}
}

func TestBytesBehind(t *testing.T) {
	for _, m := range []api.Msg{whole(), {Kind: 1}, {Kind: 26, Id: 1}, partsOf(32), partsOf(64), partsOf(128)} {
		for _, version := range versions {
			for _, behind := range []string{"\x00", "\x01", "\x80", "\xff", "\x00\x00", "\x0c\x01\x05"} {
				wantNoMessage(t, "bytes behind", version, append(refEncode(version, m), behind...), api.ErrForm)
			}
			wantNoMessage(t, "a body behind", version, slices.Repeat(refEncode(version, m), 2), api.ErrForm)
		}
	}
}

// fault is a body with a first thing that is wrong, and its error.
type fault struct {
	what string
	body string
	want api.Errno
}

func wantFaults(t *testing.T, version int, faults []fault) {
	t.Helper()
	for _, f := range faults {
		wantNoMessage(t, f.what, version, []byte(f.body), f.want)
		if _, e := refDecode(version, []byte(f.body)); e != f.want {
			t.Errorf("%s: the reference reads %x with error %d, not %d", f.what, f.body, e, f.want)
		}
	}
}

const (
	zero8    = "\x00\x00\x00\x00\x00\x00\x00\x00"
	numbers3 = zero8 + zero8 + zero8
	// no is what stands at a version's front when its texts are empty.
	no = "\x00\x00"
)

func elderFaults() []fault {
	const head = "\x01" + numbers3
	const vers = head + no + "\x00\x01"
	const vec = head + no + "\x00\x00"
	const cmd = vec + "\x00"
	k16, v64 := "\x10"+key(16), "\x40"+key(64)
	return []fault{
		{"nothing", "", api.ErrShort},
		{"kind 0", "\x00", api.ErrKind},
		{"kind 0, and the rest", "\x00" + numbers3 + no + "\x00\x00\x00\x00\x00\x00\x00\x00\x00", api.ErrKind},
		{"kind 27", "\x1b", api.ErrKind},
		{"kind 255", "\xff" + numbers3, api.ErrKind},
		{"half an Id", "\x1a\x00\x00\x00\x00", api.ErrShort},
		{"no count of Lo", head, api.ErrShort},
		{"a Lo of 17", head + "\x11", api.ErrLong},
		{"a Lo of 128", head + "\x80", api.ErrLong},
		{"a Lo of 255, all there", head + "\xff" + key(255), api.ErrLong},
		{"a Lo of 16, too short", head + "\x10" + key(15), api.ErrShort},
		{"a Hi of 17", head + "\x00\x11", api.ErrLong},
		{"a Hi of 255, behind a Lo", head + k16 + "\xff", api.ErrLong},
		{"a Hi of 1, not there", head + "\x00\x01", api.ErrShort},
		{"half a count of Vers", head + no + "\xff", api.ErrShort},
		{"4097 Vers", head + no + "\x10\x01", api.ErrLong},
		{"65535 Vers", head + no + "\xff\xff", api.ErrLong},
		{"4096 Vers, not there", head + no + "\x10\x00", api.ErrShort},
		{"1 Ver, not there", vers, api.ErrShort},
		{"a Key of 17", vers + "\x11", api.ErrLong},
		{"a Key of 16, too short", vers + "\x10" + key(15), api.ErrShort},
		{"a Val of 65", vers + "\x00\x41", api.ErrLong},
		{"a Val of 65, behind a Key", vers + k16 + "\x41" + key(65), api.ErrLong},
		{"a Val of 64, too short", vers + "\x00\x40" + key(63), api.ErrShort},
		{"no Gone", vers + k16 + v64, api.ErrShort},
		{"Gone 2", vers + no + "\x02", api.ErrForm},
		{"Gone 128", vers + no + "\x80", api.ErrForm},
		{"Gone 255, and the rest", vers + no + "\xff" + zero8 + "\x04", api.ErrForm},
		{"half a TS", vers + no + "\x01\x00\x00\x00", api.ErrShort},
		{"DC 4", vers + no + "\x00" + zero8 + "\x04", api.ErrArg},
		{"DC 255", vers + no + "\x00" + zero8 + "\xff\xff\xff\xff\xff", api.ErrArg},
		{"half a Tx", vers + no + "\x00" + zero8 + "\x03\xff\xff\xff", api.ErrShort},
		{"Tx 2^30 + 1", vers + no + "\x00" + zero8 + "\x03\x40\x00\x00\x01", api.ErrArg},
		{"Tx 2^32 - 1", vers + no + "\x00" + zero8 + "\x00\xff\xff\xff\xff", api.ErrArg},
		{"the second Ver with Gone 3", head + no + "\x00\x02" + no + "\x00" + zero8 + "\x03\x40\x00\x00\x00" + no + "\x03", api.ErrForm},
		{"no count of Vec", vec, api.ErrShort},
		{"33 Vec", vec + "\x21", api.ErrLong},
		{"255 Vec", vec + "\xff", api.ErrLong},
		{"33 Vec, all there", vec + "\x21" + strings.Repeat(zero8, 33) + "\x00\x00\x00\x00\x00\x00", api.ErrLong},
		{"32 Vec, not there", vec + "\x20", api.ErrShort},
		{"no Cmd", cmd, api.ErrShort},
		{"half a Cmd", cmd + "\xff\xff\xff", api.ErrShort},
		{"no Key of Cmd", cmd + "\xff\xff\xff\xff\xff", api.ErrShort},
		{"a Key of Cmd of 17", cmd + "\x00\x00\x00\x00\x00\x11", api.ErrLong},
		{"a Key of Cmd of 255", cmd + "\x00\x00\x00\x00\x00\xff" + key(255), api.ErrLong},
		{"a Key of Cmd of 1, not there", cmd + "\x00\x00\x00\x00\x00\x01", api.ErrShort},
		{"a byte behind", cmd + "\x00\x00\x00\x00\x00\x00\x00", api.ErrForm},
		{"a byte behind a Key of Cmd", cmd + "\x00\x00\x00\x00\x00\x01kk", api.ErrForm},
	}
}

// great is the greatest short number, and greater one bit more, that no number has.
const (
	great   = "\xff\xff\xff\xff\xff\xff\xff\xff\xff\x01"
	greater = "\xff\xff\xff\xff\xff\xff\xff\xff\xff\x02"
)

func newerFaults() []fault {
	const vers = "\x01\x20\x01"
	const cmd = "\x01\x80"
	l := []fault{
		{"nothing", "", api.ErrShort},
		{"kind 0", "\x00", api.ErrKind},
		{"kind 0, and no part", "\x00\x00", api.ErrKind},
		{"kind 27", "\x1b\x00", api.ErrKind},
		{"kind 255", "\xff\xff", api.ErrKind},
		{"no bits", "\x01", api.ErrShort},
		{"a byte behind no part", "\x01\x00\x00", api.ErrForm},
		{"a byte behind an Id", "\x01\x01\x01\x01", api.ErrForm},
		{"an Id of 0, and an N of 0", "\x01\x03\x00\x00", api.ErrForm},
		{"an Id of 1, and an N of 0", "\x01\x03\x01\x00", api.ErrForm},
		{"an Id of 0, and no N", "\x01\x03\x00", api.ErrForm},
		{"an Id of 1, and no N", "\x01\x03\x01", api.ErrShort},
		{"all bits, and no part", "\x01\xff", api.ErrShort},
		{"a Key of 17", vers + "\x11", api.ErrLong},
		{"a Key of 2^64 - 1", vers + great, api.ErrLong},
		{"a Key whose count is cut off", vers + "\x90", api.ErrShort},
		{"a Key whose count isn't in its one form", vers + "\x81\x00k", api.ErrForm},
		{"a Key of 16, too short", vers + "\x10" + key(15), api.ErrShort},
		{"a Val of 65", vers + "\x00\x41", api.ErrLong},
		{"a Val of 128", vers + "\x00\x80\x01" + key(128), api.ErrLong},
		{"a Val whose count isn't in its one form", vers + "\x00\xc0\x00", api.ErrForm},
		{"a Val of 64, too short", vers + "\x00\x40" + key(63), api.ErrShort},
		{"no Gone", vers + no, api.ErrShort},
		{"Gone 2", vers + no + "\x02", api.ErrForm},
		{"Gone 128", vers + no + "\x80\x01", api.ErrForm},
		{"Gone 129", vers + no + "\x81\x00", api.ErrForm},
		{"Gone 255, and the rest", vers + no + "\xff\x00\x04\x00", api.ErrForm},
		{"a TS whose form is another", vers + no + "\x00\x80\x00", api.ErrForm},
		{"a TS above all numbers", vers + no + "\x00" + greater, api.ErrForm},
		{"a TS cut off", vers + no + "\x00\xff\xff", api.ErrShort},
		{"DC 4", vers + no + "\x00\x00\x04", api.ErrArg},
		{"DC 2^64 - 1", vers + no + "\x00\x00" + great, api.ErrArg},
		{"DC 2^63", vers + no + "\x00\x00\x80\x80\x80\x80\x80\x80\x80\x80\x80\x01", api.ErrArg},
		{"DC 256", vers + no + "\x00\x00\x80\x02\x00", api.ErrArg},
		{"a DC whose form is another", vers + no + "\x00\x00\x84\x00", api.ErrForm},
		{"a DC cut off", vers + no + "\x00\x00\x84", api.ErrShort},
		{"Tx 2^30 + 1", vers + no + "\x00\x00\x03\x81\x80\x80\x80\x04", api.ErrArg},
		{"Tx 2^32", vers + no + "\x00\x00\x03\x80\x80\x80\x80\x10", api.ErrArg},
		{"Tx 2^64 - 1", vers + no + "\x00\x00\x00" + great, api.ErrArg},
		{"a Tx whose form is another", vers + no + "\x00\x00\x00\x80\x80\x00", api.ErrForm},
		{"no Tx", vers + no + "\x00\x00\x00", api.ErrShort},
		{"the second Ver with Gone 3", "\x01\x20\x02" + no + "\x00\x00\x00\x00" + no + "\x03", api.ErrForm},
		{"the second Ver not there", "\x01\x20\x02" + no + "\x00\x00\x00\x00", api.ErrShort},
		{"a second Vec whose form is another", "\x01\x40\x02\x05\x80\x00", api.ErrForm},
		{"a second Vec not there", "\x01\x40\x02\x05", api.ErrShort},
		{"a Vec above all numbers", "\x01\x40\x01" + greater, api.ErrForm},
		{"a Vec cut off", "\x01\x40\x01\xff\xff", api.ErrShort},
		{"a Key of Cmd of 17", cmd + "\x01\x00\x00\x00\x00\x11", api.ErrLong},
		{"a Key of Cmd of 2^64 - 1", cmd + "\x01\x00\x00\x00\x00" + great, api.ErrLong},
		{"a Key of Cmd whose count isn't in its one form", cmd + "\x01\x00\x00\x00\x00\x80\x00", api.ErrForm},
		{"a Key of Cmd of 1, not there", cmd + "\x01\x00\x00\x00\x00\x01", api.ErrShort},
		{"no Key of Cmd", cmd + "\x01\x00\x00\x00\x00", api.ErrShort},
		{"a Cmd all nought", cmd + "\x00\x00\x00\x00\x00\x00", api.ErrForm},
		{"a Cmd all nought, and a byte", cmd + "\x00\x00\x00\x00\x00\x00\x01", api.ErrForm},
		{"a Cmd nought but its Key, not there", cmd + "\x00\x00\x00\x00\x00", api.ErrShort},
		{"a byte behind a Cmd", cmd + "\x01\x00\x00\x00\x00\x00\x00", api.ErrForm},
	}
	return slices.Concat(l, newerNumberFaults(), newerTextFaults(), newerCountFaults(), newerCmdFaults())
}

// newerNumberFaults are those of Id, N and TS, behind what may stand ahead of them.
func newerNumberFaults() []fault {
	var l []fault
	for bit, name := range []string{"Id", "N", "TS"} {
		own, ahead := byte(1)<<bit, strings.Repeat("\x07", bit)
		for _, head := range []string{"\x01" + string([]byte{own}), "\x01" + string([]byte{own<<1 - 1}) + ahead, "\x01" + string([]byte{^(own - 1)})} {
			l = append(l,
				fault{name + " of 0", head + "\x00", api.ErrForm},
				fault{name + " of 0, and more", head + "\x00\x80", api.ErrForm},
				fault{name + " not there", head, api.ErrShort},
				fault{name + " cut off", head + "\x80", api.ErrShort},
				fault{name + " in another form", head + "\x80\x00", api.ErrForm},
				fault{name + " in another form", head + "\x85\x80\x00", api.ErrForm},
				fault{name + " above all numbers", head + greater, api.ErrForm},
				fault{name + " of eleven bytes", head + "\xff\xff\xff\xff\xff\xff\xff\xff\xff\x81\x00", api.ErrForm},
			)
		}
	}
	return l
}

func newerTextFaults() []fault {
	var l []fault
	for name, heads := range map[string][]string{
		"Lo": {"\x01\x08", "\x01\x0f\x07\x07\x07", "\x01\xf8"},
		"Hi": {"\x01\x10", "\x01\x1f\x07\x07\x07\x01l", "\x01\xf0"},
	} {
		for _, head := range heads {
			l = append(l,
				fault{name + " of 0", head + "\x00", api.ErrForm},
				fault{name + " of 0, and more", head + "\x00\x11\x11", api.ErrForm},
				fault{name + " of 17", head + "\x11", api.ErrLong},
				fault{name + " of 17, all there", head + "\x11" + key(17), api.ErrLong},
				fault{name + " of 272", head + "\x90\x02", api.ErrLong},
				fault{name + " of 2^64 - 1", head + great, api.ErrLong},
				fault{name + " not there", head, api.ErrShort},
				fault{name + " whose count is cut off", head + "\x91", api.ErrShort},
				fault{name + " of 16, too short", head + "\x10" + key(15), api.ErrShort},
				fault{name + " whose count isn't in its one form", head + "\x81\x00a", api.ErrForm},
				fault{name + " whose count is 0 in another form", head + "\x80\x00", api.ErrForm},
				fault{name + " whose count is above all numbers", head + greater, api.ErrForm},
			)
		}
	}
	return l
}

func newerCountFaults() []fault {
	var l []fault
	for _, c := range []struct {
		name, most, above string
		heads             []string
	}{
		{"Vers", "\x80\x20", "\x81\x20", []string{"\x01\x20", "\x01\x3f\x07\x07\x07\x01l\x01h", "\x01\xe0"}},
		{"Vec", "\x20", "\x21", []string{"\x01\x40", "\x01\x47\x07\x07\x07", "\x01\x60\x01" + no + "\x00\x00\x00\x00", "\x01\xc0"}},
	} {
		for _, head := range c.heads {
			l = append(l,
				fault{"no " + c.name, head + "\x00", api.ErrForm},
				fault{"no " + c.name + ", and more", head + "\x00\x80\x00", api.ErrForm},
				fault{"the count of " + c.name + " not there", head, api.ErrShort},
				fault{"the count of " + c.name + " cut off", head + "\x81", api.ErrShort},
				fault{"the count of " + c.name + " in another form", head + "\x81\x00", api.ErrForm},
				fault{"the count of " + c.name + " above all numbers", head + greater, api.ErrForm},
				fault{"as many " + c.name + " as may be, not there", head + c.most, api.ErrShort},
				fault{"one too many " + c.name, head + c.above, api.ErrLong},
				fault{"one too many " + c.name + ", some there", head + c.above + strings.Repeat("\x00", 400), api.ErrLong},
				fault{"2^16 " + c.name, head + "\x80\x80\x04", api.ErrLong},
				fault{"2^63 " + c.name, head + "\x80\x80\x80\x80\x80\x80\x80\x80\x80\x01", api.ErrLong},
				fault{"2^64 - 1 " + c.name, head + great, api.ErrLong},
			)
		}
	}
	return l
}

func newerCmdFaults() []fault {
	var l []fault
	for at, name := range []string{"Kind", "DC", "Shard", "Node", "Mode"} {
		for _, ahead := range []string{"\x00", "\x07", "\xff\x01"} {
			head := "\x01\x80" + strings.Repeat(ahead, at)
			l = append(l,
				fault{name + " of a Cmd of 256", head + "\x80\x02", api.ErrArg},
				fault{name + " of a Cmd of 256, all there", head + "\x80\x02" + strings.Repeat("\x00", 5-at), api.ErrArg},
				fault{name + " of a Cmd of 2^63", head + "\x80\x80\x80\x80\x80\x80\x80\x80\x80\x01", api.ErrArg},
				fault{name + " of a Cmd of 2^64 - 1", head + great, api.ErrArg},
				fault{name + " of a Cmd above all numbers", head + greater, api.ErrForm},
				fault{name + " of a Cmd in another form", head + "\x81\x00", api.ErrForm},
				fault{name + " of a Cmd cut off", head + "\x81", api.ErrShort},
				fault{name + " of a Cmd not there", head, api.ErrShort},
			)
		}
	}
	return l
}

func TestFirstFaultOfABody(t *testing.T) {
	wantFaults(t, 1, elderFaults())
	wantFaults(t, 2, newerFaults())
}

// At their limits all is read.
func TestBodiesAtTheirLimits(t *testing.T) {
	m := fullest()
	for _, version := range versions {
		body := refEncode(version, m)
		if len(body) > api.MostBody {
			t.Errorf("the fullest message has %d bytes by version %d", len(body), version)
		}
		wantBody(t, "P4.2", version, m, string(body))
		body[0]++
		wantNoMessage(t, "kind 27", version, body, api.ErrKind)
	}
	m.Vers = append(m.Vers, api.Ver{})
	wantNoMessage(t, "4097 Vers", 1, refElder(m), api.ErrLong)
	wantNoMessage(t, "4097 Vers", 2, refNewer(m), api.ErrLong)
}

func TestBodiesWithOneByteChanged(t *testing.T) {
	n := numbers(7)
	messages := []api.Msg{whole(), {Kind: 12, Id: 5}, {Kind: 1}}
	for range 5 {
		messages = append(messages, n.msg())
	}
	for _, m := range messages {
		for _, version := range versions {
			body := refEncode(version, m)
			for at := range body {
				changeByte(t, version, body, at, m)
			}
		}
	}
}

// changeByte goes through all other bytes at one place.
func changeByte(t *testing.T, version int, body []byte, at int, m api.Msg) {
	t.Helper()
	old := body[at]
	defer func() { body[at] = old }()
	for by := 1; by < 256; by++ {
		body[at] = old ^ byte(by)
		wantAsReferred(t, "a byte changed", version, body)
		if got, e := wire.Decode(version, body); e == api.OK && same(got, m) {
			t.Errorf("P4.2: %x, that isn't the body of %v by version %d, is read as it", body, m, version)
		}
	}
}

func TestBodiesSpoiltInManyWays(t *testing.T) {
	n := numbers(8)
	for range 4000 {
		m := n.msg()
		for _, version := range versions {
			body := refEncode(version, m)
			for range 1 + n.below(3) {
				body = n.spoilt(body)
			}
			wantAsReferred(t, "spoilt", version, body)
		}
	}
}

// spoilt is a body with a byte taken out, put in, changed, or a piece of it moved.
func (n *numbers) spoilt(body []byte) []byte {
	at := n.below(len(body) + 1)
	ahead, behind := body[:at], body[at:]
	piece := []byte{byte(n.next() >> 20)}
	switch n.below(4) {
	case 0:
		return slices.Concat(ahead, behind[min(1, len(behind)):])
	case 1:
		return slices.Concat(ahead, piece, behind)
	case 2:
		return slices.Concat(behind, ahead)
	}
	return slices.Concat(ahead, piece, behind[min(1, len(behind)):])
}

func TestAnyBytes(t *testing.T) {
	n := numbers(9)
	for range 20000 {
		body := []byte(n.text(60))
		if len(body) > 0 {
			body[0] %= 28
		}
		for i := range body {
			// Small bytes go further than great ones.
			if n.below(3) > 0 {
				body[i] %= 4
			}
		}
		for _, version := range versions {
			wantAsReferred(t, "any bytes", version, body)
		}
	}
}

// All short bodies: each that is read is the one of its message.
func TestAllShortBodies(t *testing.T) {
	for first := range 30 {
		wantAsReferred(t, "one byte", 2, []byte{byte(first)})
		wantAsReferred(t, "one byte", 1, []byte{byte(first)})
	}
	for second := range 256 {
		wantAsReferred(t, "two bytes", 2, []byte{3, byte(second)})
		for third := range 256 {
			wantAsReferred(t, "three bytes", 2, []byte{3, byte(second), byte(third)})
		}
	}
	for third := range 256 {
		for fourth := range 256 {
			for _, bits := range []byte{1, 3, 8, 16, 64} {
				wantAsReferred(t, "four bytes", 2, []byte{3, bits, byte(third), byte(fourth)})
			}
		}
	}
}

func TestDecodeAnswersNewMemory(t *testing.T) {
	for _, version := range versions {
		for _, m := range append(sample()[:300:300], fullest()) {
			body := refEncode(version, m)
			first, _ := wire.Decode(version, body)
			second, _ := wire.Decode(version, body)
			spoil(body)
			if !same(first, m) || !same(second, m) {
				t.Errorf("R3: a message read by version %d changes with its body", version)
			}
			spoilLists(first)
			if !same(second, m) {
				t.Errorf("R3: two messages read by version %d share memory", version)
			}
			if third, _ := wire.Decode(version, refEncode(version, m)); !same(third, m) {
				t.Errorf("R3: a message read by version %d shares memory with what is kept", version)
			}
		}
	}
}

// spoilLists changes a message's lists and their spare room.
func spoilLists(m api.Msg) {
	for i := range m.Vers[:cap(m.Vers)] {
		m.Vers[:cap(m.Vers)][i] = api.Ver{Key: "spoilt", TS: math.MaxUint64}
	}
	for i := range m.Vec[:cap(m.Vec)] {
		m.Vec[:cap(m.Vec)][i]++
	}
}

// What is handed in has room behind it, that isn't the call's.
func TestSpareRoomIsLeft(t *testing.T) {
	m := whole()
	vers, vec := append(m.Vers, wholeVer(), wholeVer()), append(m.Vec, 8, 9)
	m.Vers, m.Vec = vers[:len(m.Vers)], vec[:len(m.Vec)]
	for _, version := range versions {
		body := append(refEncode(version, m), "spare room"...)
		size := len(body) - len("spare room")
		ahead := slices.Clone(body)
		wire.Encode(version, m)
		wire.Decode(version, body[:size])
		wire.Turn(version, 1, body[:size])
		wire.Turn(version, 2, body[:size])
		if !bytes.Equal(body, ahead) {
			t.Errorf("R3: the room behind a body of version %d is %x", version, body[size:])
		}
	}
	wire.Check(m)
	if vers[3] != wholeVer() || vers[4] != wholeVer() || vec[4] != 8 || vec[5] != 9 {
		t.Errorf("R3: the room behind a message's lists is %v and %v", vers[3:], vec[4:])
	}
}

// Calls that go on at one time have nothing in common.
func TestCallsAtOneTime(t *testing.T) {
	messages := sample()[:200]
	var group sync.WaitGroup
	for worker := range 8 {
		group.Go(func() {
			for i := range messages {
				m := messages[(i+worker*25)%len(messages)]
				for _, version := range versions {
					b, _ := wire.Encode(version, m)
					if got, e := wire.Decode(version, b); !same(got, m) || e != api.OK {
						t.Errorf("R2: %v is read back as %v with error %d", m, got, e)
					}
					wire.Decode(version, b[1:])
				}
			}
		})
	}
	group.Wait()
}

func TestNoCallPanics(t *testing.T) {
	edgeNumbers := []int{math.MinInt, -1, 0, 1, 2, 3, 4, 255, 256, math.MaxInt}
	bodies := [][]byte{nil, {}, {0}, {1}, {1, 0}, {1, 255}, refElder(whole()), refNewer(whole()), bytes.Repeat([]byte{255}, 100), make([]byte, 100)}
	for _, n := range edgeNumbers {
		ver := api.Ver{Key: key(300), Val: key(300), DC: n, Tx: n}
		m := api.Msg{Kind: n, Lo: key(300), Vers: []api.Ver{ver}, Cmd: api.Cmd{Kind: n, DC: n, Shard: n, Node: n, Mode: n}}
		wantNoPanic(t, fmt.Sprint("with ", n), func() {
			wire.Check(m)
			m.Kind, m.Lo = 1, ""
			wire.Check(m)
			for _, other := range edgeNumbers {
				wire.Encode(other, m)
				wire.Agree(n, other)
				wire.Takes(n, other)
				for _, body := range bodies {
					wire.Decode(other, body)
					wire.Turn(n, other, body)
				}
			}
		})
	}
}

func wantNoPanic(t *testing.T, what string, do func()) {
	t.Helper()
	defer func() {
		if thrown := recover(); thrown != nil {
			t.Errorf("R1: %s: %v", what, thrown)
		}
	}()
	do()
}
