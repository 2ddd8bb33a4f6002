package net_test

import (
	"fmt"
	"slices"
	"strings"
	"testing"

	"confluence/api"
	"confluence/net"
)

// allBytes has each byte there is.
func allBytes() []byte {
	var b []byte
	for i := range 256 {
		b = append(b, byte(i))
	}
	return b
}

func TestSendUpToAFullWay(t *testing.T) {
	for _, b := range [][]byte{nil, {}, {0}, []byte("x"), allBytes(), []byte(strings.Repeat("long ", 1<<19))} {
		n, want := net.New(), []packet(nil)
		for count := 1; count <= 50; count++ {
			told := fmt.Sprintf("Send, number %d, of %v", count, packet{text: string(b)})
			e := n.Send(3, 4, b)
			if count <= 48 {
				wantError(t, "P7.1", told, e, api.OK)
				want = append(want, packet{text: string(b)})
			} else {
				wantError(t, "P7.1", told, e, api.ErrFull)
			}
			if n.Len(3, 4) != min(count, 48) {
				t.Errorf("P7.1: behind %s Len is %d", told, n.Len(3, 4))
			}
			wantLost(t, "P7.1: behind "+told, n, max(count-48, 0))
		}
		wantRow(t, "P7.1", n, 3, 4, want)
		wantError(t, "P7.1", "Send the other way", n.Send(4, 3, b), api.OK)
		wantLost(t, "P7.1", n, 2)
	}
}

// What a full way refuses is lost for good: with room again, what is sent next stands last.
func TestSendWithRoomAgain(t *testing.T) {
	n := holding(t, 48)
	want := whole(texts(48)...)
	for i := range 60 {
		wantError(t, "P7.1", "Send on a full way", n.Send(1, 2, []byte("lost")), api.ErrFull)
		wantRow(t, "P7.1", n, 1, 2, want)
		p, e := n.Take(1, 2, i%48)
		wantPacket(t, "P7.1", "Take", p, e, want[i%48])
		want = append(slices.Delete(want, i%48, i%48+1), packet{text: text(100 + i)})
		send(t, n, 1, 2, text(100+i))
		wantRow(t, "P7.1", n, 1, 2, want)
		wantLost(t, "P7.1", n, i+1)
	}
}

func TestLook(t *testing.T) {
	for _, count := range []int{1, 2, 3, 48} {
		n := holding(t, count)
		for range 2 {
			for i := range count {
				p, e := n.Look(1, 2, i)
				wantPacket(t, "P7.1", fmt.Sprintf("Look at %d of %d", i, count), p, e, packet{text: text(i)})
			}
		}
		for i := 0; i < count; i += 2 {
			wantError(t, "P7.1", "Spoil", n.Spoil(1, 2, i, 0, 'p'^'P'), api.OK)
		}
		for range 2 {
			for i := range count {
				p, e := n.Look(1, 2, i)
				want := packet{text: text(i)}
				if i%2 == 0 {
					want = packet{"P" + text(i)[1:], true}
				}
				wantPacket(t, "P7.1", fmt.Sprintf("Look at %d of %d, some of them spoilt,", i, count), p, e, want)
			}
		}
		wantLost(t, "P7.1", n, 0)
		if n.Len(1, 2) != count {
			t.Errorf("P7.1: behind Look Len is %d, not %d", n.Len(1, 2), count)
		}
	}
}

func TestLookAtAnyBytes(t *testing.T) {
	n := net.New()
	long := strings.Repeat("0123456789", 1<<18)
	send(t, n, 20, 0, "", string(allBytes()), long, "")
	wantRow(t, "P7.1", n, 20, 0, whole("", string(allBytes()), long, ""))
}

// some is a net of so many packets, of which each third one is spoilt, and what these are.
func some(t *testing.T, count int) (*net.Net, []packet) {
	t.Helper()
	n, l := holding(t, count), whole(texts(count)...)
	for i := 0; i < count; i += 3 {
		wantError(t, "P7.1", "Spoil", n.Spoil(1, 2, i, 5, 't'^'T'), api.OK)
		l[i] = packet{"packeT" + l[i].text[6:], true}
	}
	return n, l
}

// eachOfSome goes through ways with few and many packets, and each of their places.
func eachOfSome(t *testing.T, do func(n *net.Net, l []packet, i int)) {
	t.Helper()
	for _, count := range []int{1, 2, 3, 4, 5, 17, 47, 48} {
		for i := range count {
			n, l := some(t, count)
			do(n, l, i)
		}
	}
}

func TestTake(t *testing.T) {
	eachOfSome(t, func(n *net.Net, l []packet, i int) {
		p, e := n.Take(1, 2, i)
		wantPacket(t, "P7.1", fmt.Sprintf("Take of %d of %d", i, len(l)), p, e, l[i])
		wantRow(t, "P7.1", n, 1, 2, slices.Delete(l, i, i+1))
		wantLost(t, "P7.1", n, 0)
	})
}

func TestLose(t *testing.T) {
	eachOfSome(t, func(n *net.Net, l []packet, i int) {
		wantError(t, "P7.1", fmt.Sprintf("Lose of %d of %d", i, len(l)), n.Lose(1, 2, i), api.OK)
		wantRow(t, "P7.1", n, 1, 2, slices.Delete(l, i, i+1))
		wantLost(t, "P7.1", n, 1)
	})
}

func TestTwice(t *testing.T) {
	eachOfSome(t, func(n *net.Net, l []packet, i int) {
		want := api.OK
		if len(l) == 48 {
			want = api.ErrFull
		} else {
			l = append(l, l[i])
		}
		wantError(t, "P7.1", fmt.Sprintf("Twice of %d, to be %d,", i, len(l)), n.Twice(1, 2, i), want)
		wantRow(t, "P7.1", n, 1, 2, l)
		wantLost(t, "P7.1", n, 0)
	})
}

func TestBack(t *testing.T) {
	eachOfSome(t, func(n *net.Net, l []packet, i int) {
		wantError(t, "P7.1", fmt.Sprintf("Back of %d of %d", i, len(l)), n.Back(1, 2, i), api.OK)
		wantRow(t, "P7.1", n, 1, 2, append(slices.Delete(slices.Clone(l), i, i+1), l[i]))
		wantLost(t, "P7.1", n, 0)
	})
}

// All go one by one, from the front, from the end and from the midst.
func TestUntilNothingIsLeft(t *testing.T) {
	for name, place := range map[string]func(left int) int{
		"the first": func(int) int { return 0 },
		"the last":  func(left int) int { return left - 1 },
		"the mid":   func(left int) int { return left / 2 },
	} {
		n, want := some(t, 48)
		taken := 0
		for ; len(want) > 0; want = slices.Delete(want, place(len(want)), place(len(want))+1) {
			i := place(len(want))
			if len(want)%2 == 0 {
				wantError(t, "P7.1", "Lose of "+name, n.Lose(1, 2, i), api.OK)
			} else {
				p, e := n.Take(1, 2, i)
				wantPacket(t, "P7.1", "Take of "+name, p, e, want[i])
				taken++
			}
			wantLost(t, "P7.1", n, 48-(len(want)-1)-taken)
			wantRow(t, "P7.1", n, 1, 2, slices.Delete(slices.Clone(want), i, i+1))
		}
		wantError(t, "P7.1", "Lose of none", n.Lose(1, 2, 0), api.ErrNone)
		wantLost(t, "P7.1", n, 24)
		send(t, n, 1, 2, "again")
		wantRow(t, "P7.1", n, 1, 2, whole("again"))
	}
}

// A way can be filled by Twice alone; what is full then loses nothing but what Send brings.
func TestTwiceUpToAFullWay(t *testing.T) {
	n := holding(t, 1)
	for count := 2; count <= 48; count++ {
		wantError(t, "P7.1", "Twice", n.Twice(1, 2, count-2), api.OK)
	}
	for i := range 48 {
		wantError(t, "P7.1", "Twice on a full way", n.Twice(1, 2, i), api.ErrFull)
	}
	wantRow(t, "P7.1", n, 1, 2, whole(slices.Repeat([]string{text(0)}, 48)...))
	wantLost(t, "P7.1", n, 0)
	wantError(t, "P7.1", "Send on a full way", n.Send(1, 2, nil), api.ErrFull)
	wantLost(t, "P7.1", n, 1)
	for _, i := range []int{-1, 48, farOff} {
		wantError(t, "R6: on a full way", fmt.Sprintf("Twice(1, 2, %d)", i), n.Twice(1, 2, i), api.ErrNone)
	}
	wantError(t, "P7.1", "Lose", n.Lose(1, 2, 3), api.OK)
	wantError(t, "P7.1", "Twice with room again", n.Twice(1, 2, 46), api.OK)
	wantError(t, "P7.1", "Twice on a full way", n.Twice(1, 2, 46), api.ErrFull)
	wantLost(t, "P7.1", n, 2)
}

// Back moves packets of a full way too, which it leaves full.
func TestBackOnAFullWay(t *testing.T) {
	n := holding(t, 48)
	want := whole(texts(48)...)
	for range 48 {
		wantError(t, "P7.1", "Back on a full way", n.Back(1, 2, 0), api.OK)
		want = append(want[1:], want[0])
		wantRow(t, "P7.1", n, 1, 2, want)
	}
	for range 3 {
		wantError(t, "P7.1", "Back of the last", n.Back(1, 2, 47), api.OK)
	}
	wantRow(t, "P7.1", n, 1, 2, whole(texts(48)...))
	wantError(t, "P7.1", "Send on a full way", n.Send(1, 2, nil), api.ErrFull)
}
