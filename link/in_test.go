package link_test

import (
	"bytes"
	"math"
	"slices"
	"testing"

	"confluence/api"
	"confluence/link"
)

// wantRefused holds that a refused frame changes nothing that any later call tells.
func wantRefused(t *testing.T, promise string, build func() *link.End, f api.Frame, want api.Errno) {
	t.Helper()
	l, untouched := build(), future(build())
	for range 2 {
		wantNothing(t, promise, l, f, want)
	}
	wantFuture(t, "R6", l, untouched)
}

// otherThan is incarnations that aren't this one.
func otherThan(epoch int) []int {
	l := []int{epoch + 1, epoch - 1, -epoch, epoch + 1<<32, epoch - 1<<32, 0, 1, math.MinInt, math.MaxInt}
	return slices.DeleteFunc(l, func(other int) bool { return other == epoch })
}

func TestInOfAnotherIncarnation(t *testing.T) {
	for _, state := range some(t) {
		build, last, epoch, next := state.build, state.lastOut, state.build().Epoch(), state.build().Got()+1
		for _, other := range otherThan(epoch) {
			wantRefused(t, "P6.4", build, api.Frame{Epoch: other, Seq: next, Ack: last, Body: body(1)}, api.ErrKind)
		}
		// All else may be wrong too.
		for _, f := range []api.Frame{
			{Seq: -1}, {Ack: -1}, {Ack: last + 1}, {Seq: next + 16}, {Seq: -1, Ack: last}, {Seq: next, Ack: farTooGreat}, {Seq: farTooGreat, Ack: last, Body: body(2)},
		} {
			f.Epoch = epoch + 1
			wantRefused(t, "P6.1 and R6", build, f, api.ErrKind)
		}
	}
}

func TestInOfNumbersThatAreNone(t *testing.T) {
	for _, state := range some(t) {
		build, last, epoch, next := state.build, state.lastOut, state.build().Epoch(), state.build().Got()+1
		for _, f := range []api.Frame{
			{Seq: -1}, {Seq: -2}, {Seq: -next}, {Seq: math.MinInt}, {Seq: -1, Ack: last}, {Seq: math.MinInt, Ack: last, Body: body(1)},
			{Ack: -1}, {Ack: -2}, {Ack: math.MinInt}, {Seq: next, Ack: -1, Body: body(1)}, {Seq: next + 3, Ack: math.MinInt, Body: body(1)},
			{Seq: -1, Ack: -1}, {Seq: math.MinInt, Ack: math.MinInt},
			{Ack: last + 1}, {Ack: last + 2}, {Ack: last + 16}, {Ack: 1 << 32}, {Ack: farTooGreat},
			{Seq: next, Ack: last + 1, Body: body(1)}, {Seq: next + 3, Ack: farTooGreat, Body: body(1)},
			// A Seq that is too far ahead is told of behind all these.
			{Seq: next + 16, Ack: -1}, {Seq: next + 16, Ack: last + 1}, {Seq: farTooGreat, Ack: farTooGreat}, {Seq: farTooGreat, Ack: math.MinInt}, {Seq: -1, Ack: farTooGreat},
		} {
			f.Epoch = epoch
			wantRefused(t, "P6.1", build, f, api.ErrArg)
		}
	}
}

func TestInOfEachAck(t *testing.T) {
	for _, c := range []struct{ count, acked, last int }{
		{0, 0, 0}, {1, 0, 1}, {3, 0, 3}, {15, 0, 15}, {16, 0, 16}, {17, 0, 16}, {18, 0, 16}, {40, 0, 16}, {4096, 0, 16},
		{1, 1, 1}, {3, 2, 3}, {16, 16, 16}, {17, 1, 17}, {18, 1, 17}, {40, 5, 21}, {40, 24, 40}, {40, 23, 39}, {40, 40, 40}, {4096, 4081, 4096}, {4096, 4079, 4095}, {4096, 4096, 4096},
	} {
		build := func() *link.End { return acked(t, 2, c.count, c.acked) }
		for _, ack := range []int{0, 1, c.acked - 1, c.acked, c.acked + 1, c.last - 1, c.last} {
			if ack < 0 || ack > c.last {
				continue
			}
			l := build()
			wantNothing(t, "P6.1", l, api.Frame{Epoch: 2, Ack: ack}, api.OK)
			at := max(ack, c.acked)
			wantCounts(t, "P6.1", l, c.count-at, 0)
			wantOut(t, "P6.1", l, frames(2, 0, at+1, min(c.count, at+16)))
		}
		if c.count < 100 {
			wantRefused(t, "P6.1", build, api.Frame{Epoch: 2, Ack: c.last + 1}, api.ErrArg)
		}
		l := build()
		wantNothing(t, "P6.1", l, api.Frame{Epoch: 2, Ack: c.last + 1}, api.ErrArg)
		wantNothing(t, "P6.1", l, api.Frame{Epoch: 2, Ack: farTooGreat}, api.ErrArg)
		wantCounts(t, "R6", l, c.count-c.acked, 0)
	}
}

// What Out would answer counts, not what it has answered: an acknowledgement may come behind a Send without an Out between.
func TestInOfAnAckMovesTheWindow(t *testing.T) {
	l := sending(t, 2, 40)
	for at := 16; at <= 40; at += 8 {
		wantNothing(t, "P6.1", l, api.Frame{Epoch: 2, Ack: at + 1}, api.ErrArg)
		wantNothing(t, "P6.1", l, api.Frame{Epoch: 2, Ack: at - 8}, api.OK)
		wantCounts(t, "P6.1", l, 40-at+8, 0)
	}
	wantNothing(t, "P6.1", l, api.Frame{Epoch: 2, Ack: 40}, api.OK)
	wantNothing(t, "P6.1", l, api.Frame{Epoch: 2, Ack: 41}, api.ErrArg)
	wantSent(t, "P6.1", l, body(41), api.OK)
	wantNothing(t, "P6.1", l, api.Frame{Epoch: 2, Ack: 41}, api.OK)
	wantCounts(t, "P6.1", l, 0, 0)
}

func TestInOfEachSeq(t *testing.T) {
	for _, at := range []int{0, 1, 2, 15, 16, 17, 50} {
		for seq := range at + 1 {
			l := got(t, 2, at)
			wantNothing(t, "P6.1", l, api.Frame{Epoch: 2, Seq: seq, Body: []byte("another")}, api.OK)
			wantCounts(t, "P6.1", l, 0, at)
			wantFuture(t, "P6.1", l, future(got(t, 2, at)))
		}
		l := got(t, 2, at)
		wantComes(t, "P6.1", l, api.Frame{Epoch: 2, Seq: at + 1, Body: body(9)}, body(9))
		wantCounts(t, "P6.1", l, 0, at+1)
		for ahead := 2; ahead <= 16; ahead++ {
			wantKeptAhead(t, at, ahead)
		}
		for _, ahead := range []int{17, 18, 32, 33, 1 << 16, 1 << 32, 1<<32 + 1, farTooGreat - at} {
			wantRefused(t, "P6.1", func() *link.End { return got(t, 2, at) }, api.Frame{Epoch: 2, Seq: at + ahead, Body: body(9)}, api.ErrFull)
		}
	}
}

// wantKeptAhead hands in one that is so far ahead, and then all that are between.
func wantKeptAhead(t *testing.T, at, ahead int) {
	t.Helper()
	l := got(t, 2, at)
	wantNothing(t, "P6.1", l, api.Frame{Epoch: 2, Seq: at + ahead, Body: body(at + ahead)}, api.OK)
	wantCounts(t, "P6.1", l, 0, at)
	for seq := at + 1; seq < at+ahead-1; seq++ {
		wantComes(t, "P6.1", l, api.Frame{Epoch: 2, Seq: seq, Body: body(seq)}, body(seq))
		wantCounts(t, "P6.1", l, 0, seq)
	}
	wantComes(t, "P6.1", l, api.Frame{Epoch: 2, Seq: at + ahead - 1, Body: body(at + ahead - 1)}, body(at+ahead-1), body(at+ahead))
	wantCounts(t, "P6.1", l, 0, at+ahead)
}

func TestAckIsDoneBesideErrFull(t *testing.T) {
	for _, ahead := range []int{17, 18, farTooGreat - 4} {
		for ack := range 17 {
			l := sending(t, 2, 20)
			for seq := 1; seq <= 4; seq++ {
				wantComes(t, "P6.1", l, api.Frame{Epoch: 2, Seq: seq}, nil)
			}
			wantNothing(t, "P6.1", l, api.Frame{Epoch: 2, Seq: 6, Body: body(6)}, api.OK)
			f := api.Frame{Epoch: 2, Seq: 4 + ahead, Ack: ack, Body: body(9)}
			wantNothing(t, "P6.1", l, f, api.ErrFull)
			wantCounts(t, "P6.1", l, 20-ack, 4)
			wantOut(t, "P6.1", l, frames(2, 4, ack+1, min(20, ack+16)))
			// The body isn't kept, those that were are.
			wantComes(t, "P6.1", l, api.Frame{Epoch: 2, Seq: 5, Body: body(5)}, body(5), body(6))
			for seq := 7; seq <= 30; seq++ {
				wantComes(t, "P6.1", l, api.Frame{Epoch: 2, Seq: seq, Body: body(seq)}, body(seq))
			}
		}
	}
}

// Of a frame that is taken both things are done: what Ack says, and what Seq does.
func TestAckAndSeqTogether(t *testing.T) {
	for _, seq := range []int{0, 1, 3, 4, 5, 6, 20} {
		l := got(t, 2, 4)
		for i := range 20 {
			wantSent(t, "P6.1", l, body(i+1), api.OK)
		}
		f := api.Frame{Epoch: 2, Seq: seq, Ack: 7, Body: body(5)}
		at := 4
		if seq == 5 {
			wantComes(t, "P6.1", l, f, body(5))
			at = 5
		} else {
			wantNothing(t, "P6.1", l, f, api.OK)
		}
		wantCounts(t, "P6.1", l, 13, at)
		wantOut(t, "P6.1", l, frames(2, at, 8, 20))
	}
}

// The window goes on with got: what was too far ahead is not, as soon as one more has come.
func TestWindowOfWhatComes(t *testing.T) {
	l := link.New(2)
	for at := range 14 {
		wantNothing(t, "P6.1", l, api.Frame{Epoch: 2, Seq: at + 17, Body: []byte("too far")}, api.ErrFull)
		wantNothing(t, "P6.1", l, api.Frame{Epoch: 2, Seq: at + 16, Body: body(at + 16)}, api.OK)
		wantComes(t, "P6.1", l, api.Frame{Epoch: 2, Seq: at + 1, Body: body(at + 1)}, body(at+1))
		wantCounts(t, "P6.1", l, 0, at+1)
	}
	wantComes(t, "P6.1", l, api.Frame{Epoch: 2, Seq: 15, Body: body(15)}, bodies(15, 29)...)
	wantCounts(t, "P6.1", l, 0, 29)
}

func TestInOfEachBodyAndVersion(t *testing.T) {
	long := bytes.Repeat([]byte("0123456789abcdef"), 1<<16)
	for _, version := range []int{0, 1, 2, 255, 256, -1, math.MinInt, math.MaxInt} {
		l := link.New(2)
		for i, b := range [][]byte{nil, {}, {0}, long, append(slices.Clone(long), 1), make([]byte, 0, 9)} {
			wantComes(t, "P6.1", l, api.Frame{Version: version, Epoch: 2, Seq: 2*i + 1, Body: b}, b)
			wantNothing(t, "P6.1", l, api.Frame{Version: version, Epoch: 2, Seq: 2*i + 1, Body: body(1)}, api.OK)
			wantCounts(t, "P6.1", l, 0, 2*i+1)
			wantComes(t, "P6.1", l, api.Frame{Version: version, Epoch: 2, Seq: 2*i + 2, Body: b}, b)
		}
	}
}

// An empty body that is kept is kept: another one under its number doesn't take its place.
func TestEmptyBodiesAheadOfTheirTurn(t *testing.T) {
	for _, empty := range [][]byte{nil, {}} {
		l := link.New(2)
		wantNothing(t, "P6.1", l, api.Frame{Epoch: 2, Seq: 2, Body: empty}, api.OK)
		wantNothing(t, "P6.1", l, api.Frame{Epoch: 2, Seq: 2, Body: body(2)}, api.OK)
		wantNothing(t, "P6.1", l, api.Frame{Epoch: 2, Seq: 3, Body: body(3)}, api.OK)
		wantComes(t, "P6.1", l, api.Frame{Epoch: 2, Seq: 1, Body: empty}, nil, nil, body(3))
		wantCounts(t, "P6.1", l, 0, 3)
	}
}

// permutations is all orders of the numbers 1 to count.
func permutations(count int) [][]int {
	if count == 0 {
		return [][]int{nil}
	}
	var l [][]int
	for _, shorter := range permutations(count - 1) {
		for at := range count {
			l = append(l, slices.Insert(slices.Clone(shorter), at, count))
		}
	}
	return l
}

// wantInOrder hands in all of 1 to the greatest, in some order, each twice and with other bodies behind the first one.
func wantInOrder(t *testing.T, order []int) {
	t.Helper()
	l := link.New(2)
	came, at := map[int]bool{}, 0
	for _, seq := range order {
		came[seq] = true
		var want [][]byte
		for came[at+1] {
			at++
			want = append(want, body(at))
		}
		wantComes(t, "P6.2", l, api.Frame{Epoch: 2, Seq: seq, Body: body(seq)}, want...)
		wantCounts(t, "P6.1", l, 0, at)
		wantNothing(t, "P6.2", l, api.Frame{Epoch: 2, Seq: seq, Body: body(seq)}, api.OK)
		wantNothing(t, "P6.2", l, api.Frame{Epoch: 2, Seq: seq, Body: []byte("another")}, api.OK)
		wantCounts(t, "P6.1", l, 0, at)
	}
	wantCounts(t, "P6.1", l, 0, len(order))
}

func TestBodiesInAnyOrder(t *testing.T) {
	for count := range 7 {
		for _, order := range permutations(count) {
			wantInOrder(t, order)
		}
	}
	n := numbers(64)
	for range 1000 {
		order := make([]int, 16)
		for i := range order {
			j := n.below(i + 1)
			order[i] = order[j]
			order[j] = i + 1
		}
		wantInOrder(t, order)
	}
}

func TestInOfAllAtOnce(t *testing.T) {
	l := link.New(2)
	for seq := 16; seq > 1; seq-- {
		wantNothing(t, "P6.1", l, api.Frame{Epoch: 2, Seq: seq, Body: body(seq)}, api.OK)
	}
	wantComes(t, "P6.1", l, api.Frame{Epoch: 2, Seq: 1, Body: body(1)}, bodies(1, 16)...)
	wantCounts(t, "P6.1", l, 0, 16)
	// None is kept any more: the next sixteen begin anew.
	for seq := 32; seq > 17; seq-- {
		wantNothing(t, "P6.1", l, api.Frame{Epoch: 2, Seq: seq, Body: body(seq)}, api.OK)
	}
	wantNothing(t, "P6.1", l, api.Frame{Epoch: 2, Seq: 33, Body: body(33)}, api.ErrFull)
	wantCounts(t, "P6.1", l, 0, 16)
}

func TestNoCallPanics(t *testing.T) {
	edges := []int{math.MinInt, math.MinInt + 1, -1 << 32, -17, -1, 0, 1, 16, 17, 1 << 32, math.MaxInt - 1, math.MaxInt}
	for _, epoch := range edges {
		l := link.New(epoch)
		for i := range len(edges) * len(edges) * len(edges) {
			f := api.Frame{Version: edges[i%5], Epoch: edges[i%12], Seq: edges[i/12%12], Ack: edges[i/144], Body: [][]byte{nil, {}, body(i)}[i%3]}
			if come, e := l.In(f); e != api.OK && len(come) > 0 {
				t.Errorf("R5: In of %s tells %q beside error %d", briefFrame(f), briefBodies(come), e)
			}
			l.Send(f.Body)
			l.Out()
			l.Note(f.Body)
		}
	}
}
