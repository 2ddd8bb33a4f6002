package net_test

import (
	"fmt"
	"math"
	"slices"
	"strconv"
	"testing"

	"confluence/api"
	"confluence/net"
)

const farOff = math.MaxInt

// numbers is a row of numbers that is the same each time.
type numbers uint64

func (n *numbers) next() uint64 {
	*n = *n*6364136223846793005 + 1442695040888963407
	x := uint64(*n)
	return (x ^ x>>29) * 0x9e3779b97f4a7c15
}

func (n *numbers) below(bound int) int { return int(n.next() >> 12 % uint64(bound)) }

// packet is what is to be known of a packet.
type packet struct {
	text   string
	spoilt bool
}

func (p packet) String() string {
	told := strconv.Quote(p.text)
	if len(p.text) > 40 {
		told = fmt.Sprintf("%q.. of %d bytes", p.text[:40], len(p.text))
	}
	if p.spoilt {
		told += " (spoilt)"
	}
	return told
}

func known(p net.Packet) packet { return packet{string(p.Bytes), p.Spoilt} }

// whole are packets with these texts, none of them spoilt.
func whole(texts ...string) []packet {
	var l []packet
	for _, text := range texts {
		l = append(l, packet{text: text})
	}
	return l
}

// text is unlike that of every other number.
func text(i int) string { return "packet " + strconv.Itoa(i) }

// texts is those of the numbers from 0 on.
func texts(count int) []string {
	var l []string
	for i := range count {
		l = append(l, text(i))
	}
	return l
}

func send(t *testing.T, n *net.Net, from, to int, texts ...string) {
	t.Helper()
	for _, text := range texts {
		if e := n.Send(from, to, []byte(text)); e != api.OK {
			t.Fatalf("P7.1: Send from %d to %d of %v has error %d", from, to, packet{text: text}, e)
		}
	}
}

// holding is a net with so many packets on the way from 1 to 2, and none elsewhere.
func holding(t *testing.T, count int) *net.Net {
	t.Helper()
	n := net.New()
	send(t, n, 1, 2, texts(count)...)
	return n
}

// rowOf looks at all packets of a way.
func rowOf(n *net.Net, from, to int) []packet {
	var l []packet
	for i := range n.Len(from, to) {
		p, e := n.Look(from, to, i)
		if e != api.OK {
			p.Bytes = fmt.Appendf(p.Bytes, "(Look has error %d)", e)
		}
		l = append(l, known(p))
	}
	return l
}

func wantRow(t *testing.T, promise string, n *net.Net, from, to int, want []packet) {
	t.Helper()
	if got := rowOf(n, from, to); !slices.Equal(got, want) {
		t.Errorf("%s: on the way from %d to %d there are %v, not %v", promise, from, to, got, want)
	}
	if p, e := n.Look(from, to, len(want)); e != api.ErrNone || !nothing(p) {
		t.Errorf("%s: Look behind the last from %d to %d is %v with error %d", promise, from, to, known(p), e)
	}
}

func wantLost(t *testing.T, promise string, n *net.Net, want int) {
	t.Helper()
	if n.Lost() != want {
		t.Errorf("%s: %d are lost, not %d", promise, n.Lost(), want)
	}
}

func wantError(t *testing.T, promise, call string, e, want api.Errno) {
	t.Helper()
	if e != want {
		t.Errorf("%s: %s has error %d, not %d", promise, call, e, want)
	}
}

// wantPacket holds what Look or Take answered.
func wantPacket(t *testing.T, promise, call string, p net.Packet, e api.Errno, want packet) {
	t.Helper()
	if known(p) != want || e != api.OK {
		t.Errorf("%s: %s is %v with error %d, not %v", promise, call, known(p), e, want)
	}
}

func nothing(p net.Packet) bool { return len(p.Bytes) == 0 && !p.Spoilt }

// way is from where, and to where.
type way [2]int

func waysOf(n *net.Net) []way {
	var l []way
	for from, to := range n.Ways() {
		l = append(l, way{from, to})
	}
	return l
}

// all is all that a net tells: what is lost, which ways have packets, and the packets of each pair of numbers, of places or not.
func all(n *net.Net) []string {
	told := []string{fmt.Sprint(n.Lost(), " lost"), fmt.Sprint("ways ", waysOf(n))}
	for from := -1; from <= 21; from++ {
		for to := -1; to <= 21; to++ {
			told = append(told, fmt.Sprint(from, " to ", to, ": ", rowOf(n, from, to)))
		}
	}
	return told
}

func wantAll(t *testing.T, promise, when string, n *net.Net, want []string) {
	t.Helper()
	for i, told := range all(n) {
		if told != want[i] {
			t.Errorf("%s: %s a net tells %s, not %s", promise, when, told, want[i])
			return
		}
	}
}

// call is one that has to do with the packet i of a way. Send takes no i.
type call struct {
	name string
	do   func(n *net.Net, from, to, i int) (net.Packet, api.Errno)
}

func (c call) told(from, to, i int) string { return fmt.Sprintf("%s(%d, %d, %d)", c.name, from, to, i) }

func spoiling(at int, mask byte) call {
	return call{fmt.Sprintf("Spoil at %d with %d", at, mask), func(n *net.Net, from, to, i int) (net.Packet, api.Errno) {
		return net.Packet{}, n.Spoil(from, to, i, at, mask)
	}}
}

// callsOfOne is each call that takes an i; Spoil also with what is an error in itself.
func callsOfOne() []call {
	alone := func(f func(n *net.Net, from, to, i int) api.Errno) func(*net.Net, int, int, int) (net.Packet, api.Errno) {
		return func(n *net.Net, from, to, i int) (net.Packet, api.Errno) { return net.Packet{}, f(n, from, to, i) }
	}
	return []call{
		{"Look", (*net.Net).Look},
		{"Take", (*net.Net).Take},
		{"Lose", alone((*net.Net).Lose)},
		{"Twice", alone((*net.Net).Twice)},
		{"Back", alone((*net.Net).Back)},
		spoiling(0, 1), spoiling(-1, 1), spoiling(0, 0), spoiling(farOff, 0),
	}
}

func sending(b []byte) call {
	return call{"Send of " + packet{text: string(b)}.String(), func(n *net.Net, from, to, _ int) (net.Packet, api.Errno) {
		return net.Packet{}, n.Send(from, to, b)
	}}
}

// calls is each call that takes from and to and answers an error.
func calls() []call { return append(callsOfOne(), sending([]byte("x")), sending(nil)) }

// wantRefused makes a call that is to change nothing.
func wantRefused(t *testing.T, promise string, n *net.Net, c call, from, to, i int, want api.Errno) {
	t.Helper()
	p, e := c.do(n, from, to, i)
	wantError(t, promise, c.told(from, to, i), e, want)
	if !nothing(p) {
		t.Errorf("R5: %s tells %v beside error %d", c.told(from, to, i), known(p), e)
	}
}

// crowded is a net with ways of many kinds: full ones, one with a packet without bytes, and ones with packets that are spoilt.
func crowded(t *testing.T) *net.Net {
	t.Helper()
	n := net.New()
	send(t, n, 1, 2, texts(48)...)
	send(t, n, 0, 20, texts(48)...)
	send(t, n, 20, 0, "", "one", "two")
	send(t, n, 2, 1, texts(3)...)
	send(t, n, 20, 19, "the only one")
	for _, w := range []way{{1, 2}, {2, 1}, {20, 19}} {
		if e := n.Spoil(w[0], w[1], 0, 3, 0x20); e != api.OK {
			t.Fatalf("P7.1: Spoil from %d to %d has error %d", w[0], w[1], e)
		}
	}
	if e := n.Send(1, 2, nil); e != api.ErrFull {
		t.Fatalf("P7.1: Send on a full way has error %d", e)
	}
	return n
}

// spoil overwrites bytes with their spare room.
func spoil(b []byte) {
	b = b[:cap(b)]
	for i := range b {
		b[i] ^= 0xa5
	}
}
