package net_test

import (
	"bytes"
	"fmt"
	"runtime"
	"strings"
	"testing"

	"confluence/api"
	"confluence/net"
)

// inRoom is bytes that stand in the midst of others, and all of these.
func inRoom() (b, room []byte) {
	room = []byte("ahead of it|the bytes|" + strings.Repeat("behind it, where there is spare room", 3))
	return room[12:21], room
}

func wantAsItWas(t *testing.T, call string, room []byte) {
	t.Helper()
	if _, was := inRoom(); !bytes.Equal(room, was) {
		t.Errorf("R3: bytes with what is around them are %q behind %s", room, call)
	}
}

// useAll makes each call of a way's packets, some of them spoilt and gone behind it.
func useAll(t *testing.T, n *net.Net) {
	t.Helper()
	for _, e := range []api.Errno{n.Twice(1, 2, 0), n.Spoil(1, 2, 0, 0, 255), n.Back(1, 2, 0), n.Spoil(1, 2, 0, 8, 255), n.Twice(1, 2, 0), n.Lose(1, 2, 0)} {
		wantError(t, "P7.1", "a call", e, api.OK)
	}
	for range n.Len(1, 2) {
		p, e := n.Take(1, 2, 0)
		wantError(t, "P7.1", "Take", e, api.OK)
		spoil(p.Bytes)
	}
}

func TestSendKeepsNothing(t *testing.T) {
	n := net.New()
	b, room := inRoom()
	for range 2 {
		wantError(t, "P7.1", "Send", n.Send(1, 2, b), api.OK)
	}
	wantAsItWas(t, "Send", room)
	spoil(b)
	wantRow(t, "P7.3: with bytes changed behind Send", n, 1, 2, whole("the bytes", "the bytes"))
	spoil(b)
	useAll(t, n)
	wantAsItWas(t, "calls behind Send", room)
}

func TestRefusedSendLeavesBytes(t *testing.T) {
	n := holding(t, 48)
	b, room := inRoom()
	wantError(t, "P7.1", "Send on a full way", n.Send(1, 2, b), api.ErrFull)
	wantError(t, "P7.1", "Send on no way", n.Send(1, 1, b), api.ErrArg)
	wantError(t, "P7.1", "Send of a nil net", (*net.Net)(nil).Send(1, 2, b), api.ErrArg)
	wantAsItWas(t, "Sends that are refused", room)
}

// Bytes that come one behind the other in the same memory.
func TestSendOfOneMemory(t *testing.T) {
	n, b := net.New(), make([]byte, 9, 100)
	var want []packet
	for i := range 48 {
		copy(b, fmt.Sprintf("packet %02d", i))
		wantError(t, "P7.1", "Send", n.Send(1, 2, b[:i%10]), api.OK)
		want = append(want, packet{text: fmt.Sprintf("packet %02d", i)[:i%10]})
	}
	wantRow(t, "P7.3", n, 1, 2, want)
}

func TestLookAnswersNewMemory(t *testing.T) {
	n, want := some(t, 6)
	wantError(t, "P7.1", "Twice", n.Twice(1, 2, 3), api.OK)
	want = append(want, want[3])
	for i := range want {
		p, e := n.Look(1, 2, i)
		again, _ := n.Look(1, 2, i)
		spoil(p.Bytes)
		p.Spoilt = !p.Spoilt
		wantPacket(t, "R3", "Look, with what another Look answered changed,", again, e, want[i])
		wantRow(t, "P7.3", n, 1, 2, want)
		_ = append(p.Bytes, "more than there is"...)
		wantRow(t, "R3", n, 1, 2, want)
	}
}

// What was told by Look stays as it was, whatever becomes of the packet.
func TestLookIsOfThatTime(t *testing.T) {
	n := holding(t, 3)
	p, _ := n.Look(1, 2, 1)
	wantError(t, "P7.1", "Spoil", n.Spoil(1, 2, 1, 0, 255), api.OK)
	wantPacket(t, "P7.3", "what Look answered ahead of Spoil", p, api.OK, packet{text: text(1)})
	for range 3 {
		taken, _ := n.Take(1, 2, 0)
		spoil(taken.Bytes)
	}
	send(t, n, 1, 2, "something", "else that", "comes now")
	wantPacket(t, "P7.3", "what Look answered ahead of Take", p, api.OK, packet{text: text(1)})
}

func TestTakeAnswersNewMemory(t *testing.T) {
	n := holding(t, 3)
	for i := range 3 {
		wantError(t, "P7.1", "Twice", n.Twice(1, 2, i), api.OK)
	}
	looked, _ := n.Look(1, 2, 1)
	p, e := n.Take(1, 2, 1)
	wantPacket(t, "P7.1", "Take", p, e, packet{text: text(1)})
	spoil(p.Bytes)
	_ = append(p.Bytes, "more than there is"...)
	wantPacket(t, "R3", "what Look answered, with what Take answered changed,", looked, api.OK, packet{text: text(1)})
	wantRow(t, "P7.3", n, 1, 2, whole(text(0), text(2), text(0), text(1), text(2)))
	twin, e := n.Take(1, 2, 3)
	wantPacket(t, "P7.3", "Take of a twin", twin, e, packet{text: text(1)})
	spoil(twin.Bytes)
	send(t, n, 1, 2, "what comes next")
	wantRow(t, "P7.3", n, 1, 2, whole(text(0), text(2), text(0), text(2), "what comes next"))
	spoil(p.Bytes)
	wantPacket(t, "P7.3", "what Take answered first", p, api.OK, packet{text: text(1)})
}

// All that was taken stays as it was, while the net goes on.
func TestWhatWasTakenStays(t *testing.T) {
	n := net.New()
	var taken []net.Packet
	for i := range 200 {
		send(t, n, 1, 2, text(i), text(i)+" again")
		wantError(t, "P7.1", "Twice", n.Twice(1, 2, 0), api.OK)
		wantError(t, "P7.1", "Spoil", n.Spoil(1, 2, 2, 0, 255), api.OK)
		wantError(t, "P7.1", "Lose", n.Lose(1, 2, 2), api.OK)
		for range 2 {
			p, _ := n.Take(1, 2, 0)
			taken = append(taken, p)
		}
	}
	for i := range 200 {
		wantPacket(t, "P7.3", "what was taken", taken[2*i], api.OK, packet{text: text(i)})
		wantPacket(t, "P7.3", "what was taken", taken[2*i+1], api.OK, packet{text: text(i) + " again"})
	}
}

// heap is how many bytes are in use.
func heap() uint64 {
	runtime.GC()
	var m runtime.MemStats
	runtime.ReadMemStats(&m)
	return m.HeapAlloc
}

// What is taken or lost, or was never let in, isn't asked for any more, and so isn't to be kept.
func TestNoMoreIsKeptThanIsNeeded(t *testing.T) {
	n, big := holding(t, 2), 1<<20
	before := heap()
	wantLittleKept := func(when string) {
		t.Helper()
		if after := heap(); after > before+1<<19 {
			t.Errorf("rule 8 of the language: with %s a net keeps %d bytes", when, after-before)
		}
	}
	for i := range 4 {
		for range 10 {
			wantError(t, "P7.1", "Send", n.Send(1, 2, make([]byte, big)), api.OK)
		}
		wantError(t, "P7.1", "Back", n.Back(1, 2, 2), api.OK)
		wantError(t, "P7.1", "Twice", n.Twice(1, 2, 3), api.OK)
		for range n.Len(1, 2) - 2 {
			if n.Len(1, 2)%2 == 0 {
				n.Take(1, 2, 2+i%2*(n.Len(1, 2)-3))
			} else {
				n.Lose(1, 2, 2+i%2*(n.Len(1, 2)-3))
			}
		}
		wantLittleKept("all gone that was long")
	}
	for range 40 {
		wantError(t, "P7.1", "Send", n.Send(1, 2, make([]byte, big)[:0]), api.OK)
		wantError(t, "P7.1", "Send", n.Send(3, 4, make([]byte, big)[:1]), api.OK)
		n.Send(2, 2, make([]byte, big))
	}
	wantLittleKept("short packets out of long memory")
	wantError(t, "P7.1", "Twice", n.Twice(1, 2, 2), api.OK)
	for range 60 {
		n.Send(3, 4, make([]byte, 1))
		n.Send(3, 4, make([]byte, big)[:0])
	}
	wantLittleKept("a full way")
	runtime.KeepAlive(n)
}
