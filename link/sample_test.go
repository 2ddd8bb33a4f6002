package link_test

import (
	"bytes"
	"fmt"
	"math"
	"slices"
	"strconv"
	"testing"

	"confluence/api"
	"confluence/link"
)

const farTooGreat = math.MaxInt

// numbers is a row of numbers that is the same each time.
type numbers uint64

func (n *numbers) next() uint64 {
	*n = *n*6364136223846793005 + 1442695040888963407
	x := uint64(*n)
	return (x ^ x>>29) * 0x9e3779b97f4a7c15
}

func (n *numbers) below(bound int) int { return int(n.next() >> 12 % uint64(bound)) }

// body is the body with a number, unlike that of every other number.
func body(i int) []byte { return []byte("body " + strconv.Itoa(i)) }

// bodies is those of the numbers from one on and up to another one.
func bodies(from, to int) [][]byte {
	var l [][]byte
	for i := from; i <= to; i++ {
		l = append(l, body(i))
	}
	return l
}

// sending is an end that sent the bodies of the numbers 1 to count.
func sending(t *testing.T, epoch, count int) *link.End {
	t.Helper()
	l := link.New(epoch)
	for i := range count {
		wantSent(t, "P6.1", l, body(i+1), api.OK)
	}
	return l
}

// acked is an end that sent so many, of which so many are acknowledged.
func acked(t *testing.T, epoch, count, upTo int) *link.End {
	t.Helper()
	l := sending(t, epoch, count)
	for done := 0; done < upTo; {
		done = min(done+16, upTo)
		wantNothing(t, "P6.1", l, api.Frame{Epoch: epoch, Ack: done}, api.OK)
	}
	return l
}

// got is an end to which the bodies of the numbers 1 to count came.
func got(t *testing.T, epoch, count int) *link.End {
	t.Helper()
	l := link.New(epoch)
	for i := range count {
		wantComes(t, "P6.1", l, api.Frame{Epoch: epoch, Seq: i + 1, Body: body(i + 1)}, body(i+1))
	}
	return l
}

func same(a, b api.Frame) bool {
	return a.Version == b.Version && a.Epoch == b.Epoch && a.Seq == b.Seq && a.Ack == b.Ack && bytes.Equal(a.Body, b.Body)
}

func sameFrames(a, b []api.Frame) bool { return slices.EqualFunc(a, b, same) }

func sameBodies(a, b [][]byte) bool { return slices.EqualFunc(a, b, bytes.Equal) }

// brief keeps what a test tells of long bodies to a size that can be read.
func brief(b []byte) string {
	if len(b) > 40 {
		return fmt.Sprintf("%q.. of %d bytes", b[:40], len(b))
	}
	return fmt.Sprintf("%q", b)
}

func briefFrame(f api.Frame) string {
	return fmt.Sprintf("{version %d, epoch %d, seq %d, ack %d, %s}", f.Version, f.Epoch, f.Seq, f.Ack, brief(f.Body))
}

func briefBodies(l [][]byte) []string {
	var told []string
	for _, b := range l[:min(len(l), 20)] {
		told = append(told, brief(b))
	}
	return told
}

func briefFrames(l []api.Frame) []string {
	var told []string
	for _, f := range l {
		told = append(told, briefFrame(f))
	}
	return told
}

func wantSent(t *testing.T, promise string, l *link.End, b []byte, want api.Errno) {
	t.Helper()
	if e := l.Send(b); e != want {
		t.Errorf("%s: Send of %s has error %d, not %d", promise, brief(b), e, want)
	}
}

// wantComes hands a frame in by which just these bodies come.
func wantComes(t *testing.T, promise string, l *link.End, f api.Frame, want ...[]byte) {
	t.Helper()
	if come, e := l.In(f); !sameBodies(come, want) || e != api.OK {
		t.Errorf("%s: by In of %s there come %q with error %d, not %q", promise, briefFrame(f), briefBodies(come), e, briefBodies(want))
	}
}

// wantNothing hands a frame in by which no body comes.
func wantNothing(t *testing.T, promise string, l *link.End, f api.Frame, want api.Errno) {
	t.Helper()
	come, e := l.In(f)
	if e != want {
		t.Errorf("%s: In of %s has error %d, not %d", promise, briefFrame(f), e, want)
	}
	if len(come) != 0 {
		t.Errorf("%s: In of %s tells %q beside error %d", promise, briefFrame(f), briefBodies(come), e)
	}
}

func wantCounts(t *testing.T, promise string, l *link.End, waiting, got int) {
	t.Helper()
	if l.Waiting() != waiting || l.Got() != got {
		t.Errorf("%s: %d wait and got is %d, not %d and %d", promise, l.Waiting(), l.Got(), waiting, got)
	}
}

// wantFuture uses the end up.
func wantFuture(t *testing.T, promise string, l *link.End, want []string) {
	t.Helper()
	for i, told := range future(l) {
		if told != want[i] {
			t.Errorf("%s: a later call, number %d, tells %s, not %s", promise, i, told, want[i])
			return
		}
	}
}

func wantOut(t *testing.T, promise string, l *link.End, want []api.Frame) {
	t.Helper()
	if out := l.Out(); !sameFrames(out, want) {
		t.Errorf("%s: Out is %v, not %v", promise, briefFrames(out), briefFrames(want))
	}
}

func wantNote(t *testing.T, promise string, l *link.End, b []byte, want api.Frame) {
	t.Helper()
	if f := l.Note(b); !same(f, want) {
		t.Errorf("%s: Note of %s is %s, not %s", promise, brief(b), briefFrame(f), briefFrame(want))
	}
}

// frames is what Out tells of the bodies of the numbers from one on and up to another one.
func frames(epoch, ack, from, to int) []api.Frame {
	var l []api.Frame
	for i := from; i <= to; i++ {
		l = append(l, api.Frame{Epoch: epoch, Seq: i, Ack: ack, Body: body(i)})
	}
	return l
}

// present is what an end tells without being changed.
func present(l *link.End) string {
	return fmt.Sprint(l.Epoch(), l.Waiting(), l.Got(), briefFrames(l.Out()), briefFrame(l.Note([]byte("note"))))
}

// future is what later calls tell of an end: by filling each gap, and by acknowledging all that waits, it brings all to light that an end keeps. The end is used up by it.
func future(l *link.End) []string {
	told := []string{present(l)}
	for range 35 {
		next := l.Got() + 1
		come, e := l.In(api.Frame{Epoch: l.Epoch(), Seq: next, Body: []byte("fills gap " + strconv.Itoa(next))})
		told = append(told, fmt.Sprint(next, e, briefBodies(come)))
	}
	told = append(told, fmt.Sprint(l.Send([]byte("one more"))))
	for out := l.Out(); len(out) > 0; out = l.Out() {
		_, e := l.In(api.Frame{Epoch: l.Epoch(), Ack: out[len(out)-1].Seq})
		told = append(told, fmt.Sprint(e, briefFrames(out)))
	}
	_, beyond := l.In(api.Frame{Epoch: l.Epoch(), Ack: 1 << 40})
	return append(told, present(l), fmt.Sprint(beyond))
}

// state is an end, made anew each time, with the number of the last one that Out answers, or that was acknowledged.
type state struct {
	build   func() *link.End
	lastOut int
}

// some is ends in many states.
func some(t *testing.T) []state {
	early := func(l *link.End, seqs ...int) *link.End {
		for _, seq := range seqs {
			wantNothing(t, "P6.1", l, api.Frame{Epoch: l.Epoch(), Seq: seq, Body: body(seq)}, api.OK)
		}
		return l
	}
	return []state{
		{func() *link.End { return link.New(3) }, 0},
		{func() *link.End { return sending(t, 3, 1) }, 1},
		{func() *link.End { return acked(t, 3, 20, 5) }, 20},
		{func() *link.End { return acked(t, 3, 30, 5) }, 21},
		{func() *link.End { return acked(t, 3, 7, 7) }, 7},
		{func() *link.End { return got(t, 3, 4) }, 0},
		{func() *link.End { return early(got(t, 3, 4), 6, 9, 20) }, 0},
		{func() *link.End { return early(acked(t, 3, 40, 33), 2, 3, 16) }, 40},
		{func() *link.End { return early(acked(t, -9, 60, 1), 5) }, 17},
	}
}

// spoil overwrites bytes with their spare room.
func spoil(b []byte) {
	b = b[:cap(b)]
	for i := range b {
		b[i] ^= 0xa5
	}
}
