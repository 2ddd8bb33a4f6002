package link_test

import (
	"slices"
	"testing"

	"confluence/api"
	"confluence/link"
)

// side is one of two ends, with all that it took to be sent, all that came to it, and the frames that are on their way to it.
type side struct {
	end        *link.End
	sent, came [][]byte
	toCome     []api.Frame
}

// pair is two ends of one incarnation; what one sends is on its way to the other.
type pair [2]*side

func newPair(epoch int) pair {
	return pair{{end: link.New(epoch)}, {end: link.New(epoch)}}
}

// send hands bodies over; one that is refused counts as not sent.
func (p pair) send(t *testing.T, i, count int) {
	t.Helper()
	s := p[i]
	for range count {
		b := body(1000000*i + len(s.sent))
		switch e := s.end.Send(b); {
		case e == api.OK:
			s.sent = append(s.sent, b)
		case e != api.ErrFull || s.end.Waiting() != 4096:
			t.Fatalf("P6.1: Send has error %d, while %d wait", e, s.end.Waiting())
		}
	}
}

func (p pair) out(i int) { p[1-i].toCome = append(p[1-i].toCome, p[i].end.Out()...) }

func (p pair) note(i int) { p[1-i].toCome = append(p[1-i].toCome, p[i].end.Note([]byte("note"))) }

// deliver hands a frame in. What comes has to go on just where it stood.
func (p pair) deliver(t *testing.T, i int, f api.Frame) {
	t.Helper()
	s, other := p[i], p[1-i]
	come, e := s.end.In(f)
	if e != api.OK {
		t.Fatalf("P6.2: In of %s has error %d", briefFrame(f), e)
	}
	s.came = append(s.came, come...)
	if len(s.came) > len(other.sent) || !sameBodies(come, other.sent[len(s.came)-len(come):len(s.came)]) {
		t.Fatalf("P6.2: by In of %s there come %q as numbers %d and on", briefFrame(f), briefBodies(come), len(s.came)-len(come)+1)
	}
	if s.end.Got() != len(s.came) {
		t.Fatalf("P6.1: %d came, and got is %d", len(s.came), s.end.Got())
	}
	if waiting := len(s.sent) - s.end.Waiting(); waiting > len(other.came) {
		t.Fatalf("P6.2: %d wait no more, of which only %d came", waiting, len(other.came))
	}
}

// act does one thing to the frames on their way: one comes, or comes and stays, or is lost, or stands last.
func (p pair) act(t *testing.T, n *numbers, lossy int) {
	t.Helper()
	i := n.below(2)
	s := p[i]
	if len(s.toCome) == 0 {
		return
	}
	at := n.below(len(s.toCome))
	f := s.toCome[at]
	switch what := n.below(10); {
	case what < lossy:
		s.toCome = slices.Delete(s.toCome, at, at+1)
	case what < 8:
		p.deliver(t, i, f)
		s.toCome = slices.Delete(s.toCome, at, at+1)
	default:
		p.deliver(t, i, f)
	}
}

// calm brings over all that Out answers, again and again. The Note goes with it, as Ack of an end that has nothing to send is told by nothing else.
func (p pair) calm(t *testing.T, rounds int) {
	t.Helper()
	for range rounds {
		for i := range p {
			for _, f := range append(p[i].end.Out(), p[i].end.Note(nil)) {
				p.deliver(t, 1-i, f)
			}
		}
	}
}

func (p pair) wantAllCame(t *testing.T) {
	t.Helper()
	for i, s := range p {
		if !sameBodies(s.came, p[1-i].sent) {
			t.Fatalf("P6.3: %d of %d came to end %d", len(s.came), len(p[1-i].sent), i)
		}
		wantCounts(t, "P6.3", s.end, 0, len(p[1-i].sent))
		wantOut(t, "P6.3", s.end, nil)
	}
}

// The frames that are on their way, old ones too, come in any order, are doubled and lost.
func TestTwoEnds(t *testing.T) {
	n := numbers(71)
	for run := range 80 {
		p := newPair(n.below(9) - 4)
		lossy := run % 7
		for range 1500 {
			switch i := n.below(2); n.below(12) {
			case 0:
				p.send(t, i, 1+n.below(6))
			case 1:
				p.out(i)
			case 2:
				p.note(i)
			default:
				p.act(t, &n, lossy)
			}
		}
		if len(p[0].came) == 0 && len(p[1].came) == 0 {
			t.Errorf("P6.2: nothing came at all in run %d", run)
		}
		p.calm(t, (len(p[0].sent)+len(p[1].sent))/16+3)
		p.wantAllCame(t)
		// What is still on its way brings nothing any more.
		for i, s := range p {
			for _, f := range s.toCome {
				p.deliver(t, i, f)
			}
		}
		p.wantAllCame(t)
	}
}

// Bursts that fill the queue, beside a net that loses most of it.
func TestTwoEndsWithFullQueues(t *testing.T) {
	n := numbers(72)
	p := newPair(7)
	for range 4 {
		p.send(t, 0, 5000)
		p.send(t, 1, 300)
		for range 3000 {
			switch i := n.below(2); n.below(9) {
			case 0:
				p.out(i)
			case 1:
				p.note(i)
			default:
				p.act(t, &n, 5)
			}
		}
	}
	p.calm(t, 700)
	p.wantAllCame(t)
	p.send(t, 0, 1)
	p.calm(t, 2)
	p.wantAllCame(t)
}

// However little of it comes in a round, if it comes again and again, all does.
func TestAllComesInTheEnd(t *testing.T) {
	n := numbers(73)
	for _, count := range []int{1, 2, 15, 16, 17, 100, 1000} {
		p := newPair(1)
		p.send(t, 0, count)
		p.send(t, 1, count/3)
		for rounds := 0; p[0].end.Waiting()+p[1].end.Waiting() > 0; rounds++ {
			if rounds > 100*count+1000 {
				t.Fatalf("P6.3: of %d there wait %d and %d", count, p[0].end.Waiting(), p[1].end.Waiting())
			}
			for i := range p {
				for _, f := range append(p[i].end.Out(), p[i].end.Note(nil)) {
					if n.below(4) == 0 {
						p.deliver(t, 1-i, f)
					}
				}
			}
		}
		p.wantAllCame(t)
	}
}

// All goes on by Out alone, too, where each end has something to send.
func TestAllComesByOutAlone(t *testing.T) {
	p := newPair(1)
	p.send(t, 0, 100)
	for round := range 20 {
		p.send(t, 1, 1)
		for i := range p {
			for _, f := range p[i].end.Out() {
				p.deliver(t, 1-i, f)
			}
		}
		if want := min(100, 16*(round+1)); len(p[1].came) != want {
			t.Fatalf("P6.3: behind round %d there came %d, not %d", round, len(p[1].came), want)
		}
	}
	wantCounts(t, "P6.3", p[0].end, 0, 20)
}

// foreign is frames of each kind of another incarnation, some of them as an end of that one would send them.
func foreign(t *testing.T, epoch int) []api.Frame {
	other := sending(t, epoch, 20)
	wantComes(t, "P6.1", other, api.Frame{Epoch: epoch, Seq: 1, Body: body(1)}, body(1))
	l := append(other.Out(), other.Note(nil), other.Note(body(1)))
	for _, seq := range []int{-1, 0, 1, 2, 5, 6, 16, 17, 18, 40, farTooGreat} {
		for _, ack := range []int{-1, 0, 1, 2, 5, 16, 17, 40, farTooGreat} {
			l = append(l, api.Frame{Version: 2, Epoch: epoch, Seq: seq, Ack: ack, Body: []byte("foreign")})
		}
	}
	return l
}

func TestFramesOfOtherIncarnations(t *testing.T) {
	for _, state := range some(t) {
		want, l := future(state.build()), state.build()
		for _, other := range otherThan(l.Epoch()) {
			for _, f := range foreign(t, other) {
				was := present(l)
				wantNothing(t, "P6.4", l, f, api.ErrKind)
				if now := present(l); now != was {
					t.Fatalf("P6.4: behind %s an end tells %s, and told %s", briefFrame(f), now, was)
				}
			}
		}
		wantFuture(t, "P6.4", l, want)
	}
}

// Two ends with frames of other incarnations between go just the same way as two without.
func TestOtherIncarnationsBetween(t *testing.T) {
	run := func(disturbed bool) ([]string, pair) {
		n, m := numbers(74), numbers(75)
		p := newPair(5)
		var told []string
		strange := slices.Concat(foreign(t, 4), foreign(t, 6), foreign(t, -5))
		for range 2000 {
			switch i := n.below(2); n.below(9) {
			case 0:
				p.send(t, i, 1+n.below(4))
			case 1:
				p.out(i)
			case 2:
				p.note(i)
			default:
				p.act(t, &n, 2)
			}
			if disturbed {
				wantNothing(t, "P6.4", p[m.below(2)].end, strange[m.below(len(strange))], api.ErrKind)
			}
			told = append(told, present(p[0].end), present(p[1].end))
		}
		return told, p
	}
	want, _ := run(false)
	told, p := run(true)
	for i := range want {
		if told[i] != want[i] {
			t.Fatalf("P6.4: beside other incarnations an end tells %s, not %s", told[i], want[i])
		}
	}
	p.calm(t, 200)
	p.wantAllCame(t)
}
