package link_test

import (
	"testing"

	"confluence/api"
	"confluence/link"
)

// refEnd is a second end, that forgets nothing: all that was sent, and of each number the first body that was taken for it.
type refEnd struct {
	epoch, acked, got int
	sent              []string
	came              map[int]string
}

func newRef(epoch int) *refEnd { return &refEnd{epoch: epoch, came: map[int]string{}} }

func (r *refEnd) send(b []byte) api.Errno {
	if len(b) > 1048576 {
		return api.ErrLong
	}
	if len(r.sent) == r.acked+4096 {
		return api.ErrFull
	}
	r.sent = append(r.sent, string(b))
	return api.OK
}

func (r *refEnd) out() []api.Frame {
	var l []api.Frame
	for seq := r.acked + 1; seq <= len(r.sent) && seq <= r.acked+16; seq++ {
		l = append(l, api.Frame{Epoch: r.epoch, Seq: seq, Ack: r.got, Body: []byte(r.sent[seq-1])})
	}
	return l
}

func (r *refEnd) note(b []byte) api.Frame { return api.Frame{Epoch: r.epoch, Ack: r.got, Body: b} }

func (r *refEnd) in(f api.Frame) ([][]byte, api.Errno) {
	if f.Epoch != r.epoch {
		return nil, api.ErrKind
	}
	most := r.acked
	if out := r.out(); len(out) > 0 {
		most = out[len(out)-1].Seq
	}
	if f.Seq < 0 || f.Ack < 0 || f.Ack > most {
		return nil, api.ErrArg
	}
	r.acked = max(r.acked, f.Ack)
	if f.Seq <= r.got {
		return nil, api.OK
	}
	if f.Seq > r.got+16 {
		return nil, api.ErrFull
	}
	if _, ok := r.came[f.Seq]; !ok {
		r.came[f.Seq] = string(f.Body)
	}
	var come [][]byte
	for {
		b, ok := r.came[r.got+1]
		if !ok {
			return come, api.OK
		}
		r.got++
		come = append(come, []byte(b))
	}
}

// wantAlike holds all that an end tells against what the second one does.
func wantAlike(t *testing.T, l *link.End, r *refEnd) {
	t.Helper()
	if l.Epoch() != r.epoch {
		t.Errorf("P6.1: the incarnation is %d, not %d", l.Epoch(), r.epoch)
	}
	wantCounts(t, "P6.1", l, len(r.sent)-r.acked, r.got)
	wantOut(t, "P6.1", l, r.out())
	wantNote(t, "P6.1", l, []byte("note"), r.note([]byte("note")))
}

// around is a number near another one, or at an edge.
func around(n *numbers, near int) int {
	switch n.below(40) {
	case 0:
		return -1
	case 1:
		return 0
	case 2:
		return farTooGreat
	case 3:
		return -farTooGreat - 1
	}
	return near - 3 + n.below(23)
}

func anyFrame(n *numbers, r *refEnd) api.Frame {
	f := api.Frame{Version: n.below(4), Epoch: r.epoch, Seq: around(n, r.got), Ack: around(n, r.acked), Body: body(n.below(1 << 20))}
	if n.below(12) == 0 {
		f.Epoch += n.below(5) - 2
	}
	if n.below(3) == 0 {
		f.Ack = n.below(r.acked + 1)
	}
	if n.below(30) == 0 {
		f.Body = nil
	}
	return f
}

func TestLongRunsOfCalls(t *testing.T) {
	n := numbers(61)
	for run := range 60 {
		epoch := n.below(7) - 3
		l, r := link.New(epoch), newRef(epoch)
		for range 500 {
			if n.below(3) == 0 {
				for range 1 + n.below(4) {
					b := body(n.below(1 << 20))
					wantSent(t, "P6.1", l, b, r.send(b))
				}
			}
			f := anyFrame(&n, r)
			want, wantE := r.in(f)
			if come, e := l.In(f); !sameBodies(come, want) || e != wantE {
				t.Errorf("P6.1: In of %s tells %q with error %d, not %q with error %d", briefFrame(f), briefBodies(come), e, briefBodies(want), wantE)
			}
			wantAlike(t, l, r)
			if t.Failed() {
				t.Fatalf("P6.1: run %d goes another way than the second end", run)
			}
		}
	}
}

// The queue is full most of the time, and drained now and then.
func TestLongRunsOfCallsWithManyThatWait(t *testing.T) {
	n := numbers(62)
	l, r := link.New(1), newRef(1)
	for range 6000 {
		for range n.below(12) {
			b := body(len(r.sent) + 1)
			wantSent(t, "P6.1", l, b, r.send(b))
		}
		f := api.Frame{Epoch: 1, Ack: r.acked + n.below(18)}
		want, wantE := r.in(f)
		if come, e := l.In(f); !sameBodies(come, want) || e != wantE {
			t.Fatalf("P6.1: In of %s tells %q with error %d, not error %d", briefFrame(f), briefBodies(come), e, wantE)
		}
		wantCounts(t, "P6.1", l, len(r.sent)-r.acked, 0)
		if n.below(50) == 0 {
			wantAlike(t, l, r)
		}
		if t.Failed() {
			return
		}
	}
	if len(r.sent) < 3*4096 {
		t.Errorf("only %d were sent", len(r.sent))
	}
}

// Calls of two ends, by turns: what becomes of the one is nothing to the other.
func TestEndsAreApart(t *testing.T) {
	n := numbers(63)
	ends := [2]*link.End{link.New(1), link.New(1)}
	refs := [2]*refEnd{newRef(1), newRef(1)}
	for range 2000 {
		i := n.below(2)
		b := body(n.below(1 << 20))
		wantSent(t, "R2", ends[i], b, refs[i].send(b))
		f := anyFrame(&n, refs[i])
		want, wantE := refs[i].in(f)
		if come, e := ends[i].In(f); !sameBodies(come, want) || e != wantE {
			t.Fatalf("R2: In of %s tells %q with error %d, not %q with error %d", briefFrame(f), briefBodies(come), e, briefBodies(want), wantE)
		}
		wantAlike(t, ends[0], refs[0])
		wantAlike(t, ends[1], refs[1])
		if t.Failed() {
			return
		}
	}
}
