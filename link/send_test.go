package link_test

import (
	"bytes"
	"math"
	"testing"

	"confluence/api"
	"confluence/link"
)

var epochs = []int{0, 1, 2, 3, -1, -2, -1 << 31, 1<<31 - 1, 1 << 32, 1<<32 - 1, math.MinInt, math.MaxInt}

func TestExamples(t *testing.T) {
	a, b := link.New(3), link.New(3)
	wantSent(t, "P6.1", a, []byte("a"), api.OK)
	wantSent(t, "P6.1", a, []byte("b"), api.OK)
	first, second := api.Frame{Epoch: 3, Seq: 1, Body: []byte("a")}, api.Frame{Epoch: 3, Seq: 2, Body: []byte("b")}
	wantOut(t, "P6.1", a, []api.Frame{first, second})
	wantNothing(t, "P6.1", b, second, api.OK)
	wantComes(t, "P6.1", b, first, []byte("a"), []byte("b"))
	note := b.Note(nil)
	if note.Ack != 2 {
		t.Errorf("P6.1: the Note is %s", briefFrame(note))
	}
	wantNothing(t, "P6.1", a, note, api.OK)
	wantCounts(t, "P6.1", a, 0, 0)
	wantOut(t, "P6.1", a, nil)
}

func TestNewEndOfEachIncarnation(t *testing.T) {
	for _, epoch := range epochs {
		l := link.New(epoch)
		if l == nil || l.Epoch() != epoch {
			t.Fatalf("P6.1: a new end of incarnation %d tells %d", epoch, l.Epoch())
		}
		wantCounts(t, "P6.1", l, 0, 0)
		wantOut(t, "P6.1", l, nil)
		wantNote(t, "P6.1", l, nil, api.Frame{Epoch: epoch})
		wantNote(t, "P6.1", l, []byte("note"), api.Frame{Epoch: epoch, Body: []byte("note")})
		wantNothing(t, "P6.1", l, api.Frame{Epoch: epoch}, api.OK)
		wantNothing(t, "P6.1", l, api.Frame{Epoch: epoch, Ack: 1}, api.ErrArg)
		wantSent(t, "P6.1", l, body(1), api.OK)
		wantComes(t, "P6.1", l, api.Frame{Epoch: epoch, Seq: 1, Body: body(7)}, body(7))
		wantOut(t, "P6.1", l, frames(epoch, 1, 1, 1))
		wantCounts(t, "P6.1", l, 1, 1)
		if l.Epoch() != epoch {
			t.Errorf("P6.1: behind calls an end of incarnation %d tells %d", epoch, l.Epoch())
		}
	}
}

func TestSendOfEachBody(t *testing.T) {
	most := bytes.Repeat([]byte("0123456789abcdef"), 1<<16)
	l := link.New(2)
	var want []api.Frame
	for i, b := range [][]byte{nil, {}, make([]byte, 0, 9), {0}, {255}, most[:1<<20-1], most, make([]byte, 1<<20)} {
		wantSent(t, "P6.1", l, b, api.OK)
		want = append(want, api.Frame{Epoch: 2, Seq: i + 1, Body: b})
		wantCounts(t, "P6.1", l, i+1, 0)
	}
	for _, size := range []int{1<<20 + 1, 1<<20 + 2, 1 << 21} {
		wantSent(t, "P6.1", l, make([]byte, size), api.ErrLong)
		wantCounts(t, "R6", l, len(want), 0)
	}
	wantOut(t, "P6.1", l, want)
	other := link.New(2)
	for _, f := range l.Out() {
		wantComes(t, "P6.1", other, f, f.Body)
	}
}

func TestSendOfEachCount(t *testing.T) {
	l := sending(t, 1, 4094)
	for _, c := range []struct {
		waiting int
		e, long api.Errno
	}{
		{4095, api.OK, api.ErrLong},
		{4096, api.OK, api.ErrLong},
		{4096, api.ErrFull, api.ErrLong},
		{4096, api.ErrFull, api.ErrLong},
	} {
		wantSent(t, "P6.1", l, body(4095), c.e)
		wantCounts(t, "P6.1", l, c.waiting, 0)
		wantSent(t, "P6.1 and R6", l, make([]byte, 1<<20+1), c.long)
		wantSent(t, "P6.1", l, make([]byte, 1<<21), c.long)
		wantCounts(t, "R6", l, c.waiting, 0)
	}
	wantSent(t, "P6.1", l, make([]byte, 1<<20), api.ErrFull)
	wantSent(t, "P6.1", l, nil, api.ErrFull)
	wantOut(t, "P6.1", l, frames(1, 0, 1, 16))
}

func TestSendAgainBehindAcknowledged(t *testing.T) {
	l := sending(t, 1, 4096)
	wantSent(t, "P6.1", l, body(4097), api.ErrFull)
	wantNothing(t, "P6.1", l, api.Frame{Epoch: 1, Ack: 3}, api.OK)
	wantCounts(t, "P6.1", l, 4093, 0)
	for i := 4097; i <= 4099; i++ {
		wantSent(t, "P6.1", l, body(i), api.OK)
		wantCounts(t, "P6.1", l, i-3, 0)
	}
	wantSent(t, "P6.1", l, body(4100), api.ErrFull)
	wantOut(t, "P6.1", l, frames(1, 0, 4, 19))
	// Those that were refused have no number: the last ones are 4097 to 4099.
	for upTo := 19; upTo < 4099; upTo += 16 {
		wantNothing(t, "P6.1", l, api.Frame{Epoch: 1, Ack: upTo}, api.OK)
		wantOut(t, "P6.1", l, frames(1, 0, upTo+1, min(upTo+16, 4099)))
	}
	wantNothing(t, "P6.1", l, api.Frame{Epoch: 1, Ack: 4099}, api.OK)
	wantCounts(t, "P6.1", l, 0, 0)
	wantNothing(t, "P6.1", l, api.Frame{Epoch: 1, Ack: 4100}, api.ErrArg)
}

func TestOutOfEachCount(t *testing.T) {
	for _, epoch := range []int{0, 5, -5} {
		for _, count := range []int{0, 1, 2, 3, 8, 14, 15, 16, 17, 18, 31, 32, 33, 100} {
			l := sending(t, epoch, count)
			for range 3 {
				wantOut(t, "P6.1", l, frames(epoch, 0, 1, min(count, 16)))
				wantCounts(t, "P6.1", l, count, 0)
			}
		}
	}
	wantOut(t, "P6.1", sending(t, 1, 4096), frames(1, 0, 1, 16))
}

func TestOutBehindAcknowledged(t *testing.T) {
	for _, count := range []int{1, 2, 15, 16, 17, 18, 32, 33, 40} {
		for upTo := range min(count, 16) + 1 {
			l := sending(t, 4, count)
			wantNothing(t, "P6.1", l, api.Frame{Epoch: 4, Ack: upTo}, api.OK)
			for range 2 {
				wantOut(t, "P6.1", l, frames(4, 0, upTo+1, min(count, upTo+16)))
			}
			wantCounts(t, "P6.1", l, count-upTo, 0)
			wantSent(t, "P6.1", l, body(count+1), api.OK)
			wantOut(t, "P6.1", l, frames(4, 0, upTo+1, min(count+1, upTo+16)))
		}
	}
}

func TestOutAndNoteTellWhatCame(t *testing.T) {
	l := sending(t, 6, 3)
	long := bytes.Repeat([]byte("long "), 1<<18)
	for i := 0; i < 40; i += 2 {
		wantOut(t, "P6.1", l, frames(6, i, 1, 3))
		for _, b := range [][]byte{nil, {}, []byte("note"), long, long[:1<<20]} {
			wantNote(t, "P6.1", l, b, api.Frame{Epoch: 6, Ack: i, Body: b})
		}
		// What is ahead of its turn is not told of.
		wantNothing(t, "P6.1", l, api.Frame{Epoch: 6, Seq: i + 2, Body: body(i + 2)}, api.OK)
		wantOut(t, "P6.1", l, frames(6, i, 1, 3))
		wantNote(t, "P6.1", l, nil, api.Frame{Epoch: 6, Ack: i})
		wantComes(t, "P6.1", l, api.Frame{Epoch: 6, Seq: i + 1, Body: body(i + 1)}, body(i+1), body(i+2))
	}
	wantCounts(t, "P6.1", l, 3, 40)
}

// Neither Out nor Note, nor what only tells, changes what later calls tell.
func TestTellingChangesNothing(t *testing.T) {
	for _, state := range some(t) {
		want, l := future(state.build()), state.build()
		for range 3 {
			l.Out()
			l.Note([]byte("note"))
			l.Epoch()
			l.Waiting()
			l.Got()
		}
		wantFuture(t, "P6.1 and R2", l, want)
	}
}

func TestRefusedSendChangesNothing(t *testing.T) {
	for _, state := range some(t) {
		want, l := future(state.build()), state.build()
		long := bytes.Repeat([]byte{1}, 1<<20+1)
		wantSent(t, "P6.1", l, long, api.ErrLong)
		wantFuture(t, "R6", l, want)
	}
	full := func() *link.End { return acked(t, 3, 4096, 0) }
	want := future(full())
	l := full()
	wantSent(t, "P6.1", l, body(1), api.ErrFull)
	wantSent(t, "P6.1", l, nil, api.ErrFull)
	wantFuture(t, "R6", l, want)
}

func TestNilEnd(t *testing.T) {
	var l *link.End
	for _, b := range [][]byte{nil, {}, body(1), make([]byte, 1<<20), make([]byte, 1<<20+1)} {
		wantSent(t, "P6.1", l, b, api.ErrArg)
		wantNote(t, "P6.1", l, b, api.Frame{})
	}
	for _, n := range []int{0, 1, -1, 17, math.MinInt, math.MaxInt} {
		for _, f := range []api.Frame{{Epoch: n}, {Seq: n}, {Ack: n}, {Version: n, Epoch: n, Seq: n, Ack: n, Body: body(1)}} {
			wantNothing(t, "P6.1", l, f, api.ErrArg)
		}
	}
	wantOut(t, "P6.1", l, nil)
	wantCounts(t, "P6.1", l, 0, 0)
	if l.Epoch() != 0 {
		t.Errorf("P6.1: the incarnation of a nil end is %d", l.Epoch())
	}
}
