package link_test

import (
	"bytes"
	"runtime"
	"slices"
	"strings"
	"testing"

	"confluence/api"
	"confluence/link"
)

// inRoom is a body that stands in the midst of other bytes, and all of these.
func inRoom() (b, room []byte) {
	room = []byte("ahead of it|the body|" + strings.Repeat("behind it, where there is spare room", 3))
	return room[12:20], room
}

var theBody = []byte("the body")

func wantAsItWas(t *testing.T, call string, room []byte) {
	t.Helper()
	if _, was := inRoom(); !bytes.Equal(room, was) {
		t.Errorf("P6.5: a body with what is around it is %q behind %s", room, call)
	}
}

func TestSendKeepsNothing(t *testing.T) {
	l := link.New(1)
	b, room := inRoom()
	for range 2 {
		wantSent(t, "P6.1", l, b, api.OK)
	}
	wantAsItWas(t, "Send", room)
	spoil(b)
	want := []api.Frame{{Epoch: 1, Seq: 1, Body: theBody}, {Epoch: 1, Seq: 2, Body: theBody}}
	wantOut(t, "P6.5", l, want)
	wantNothing(t, "P6.1", l, api.Frame{Epoch: 1, Ack: 1}, api.OK)
	spoil(b)
	wantAsItWas(t, "what comes behind Send", room)
	wantOut(t, "P6.5", l, want[1:])
}

func TestNoteKeepsNothing(t *testing.T) {
	l := got(t, 1, 3)
	b, room := inRoom()
	f, again := l.Note(b), l.Note(b)
	wantAsItWas(t, "Note", room)
	spoil(b)
	want := api.Frame{Epoch: 1, Ack: 3, Body: theBody}
	if !same(f, want) || !same(again, want) {
		t.Errorf("P6.5: with its body changed behind the call a Note is %s", briefFrame(f))
	}
	spoil(b)
	spoil(f.Body)
	wantAsItWas(t, "a Note that was changed", room)
	if !same(again, want) {
		t.Errorf("R3: with one Note changed another one is %s", briefFrame(again))
	}
}

func TestInKeepsNothing(t *testing.T) {
	for _, refused := range []api.Frame{{Epoch: 2}, {Epoch: 1, Ack: 1}, {Epoch: 1, Seq: 17}, {Epoch: 1}} {
		b, room := inRoom()
		refused.Body = b
		if come, _ := link.New(1).In(refused); len(come) > 0 {
			t.Errorf("P6.1: In of %s tells %q", briefFrame(refused), briefBodies(come))
		}
		wantAsItWas(t, "In of "+briefFrame(refused), room)
	}
	b, room := inRoom()
	l := link.New(1)
	come, e := l.In(api.Frame{Epoch: 1, Seq: 1, Body: b})
	wantAsItWas(t, "In", room)
	spoil(b)
	if !sameBodies(come, [][]byte{theBody}) || e != api.OK {
		t.Errorf("P6.5: with its body changed behind In there came %q", come)
	}
	spoil(b)
	for _, c := range come {
		spoil(c)
	}
	wantAsItWas(t, "a change of what came", room)
}

func TestInKeepsNothingAheadOfItsTurn(t *testing.T) {
	l := link.New(1)
	b, room := inRoom()
	for _, seq := range []int{3, 2, 16} {
		wantNothing(t, "P6.1", l, api.Frame{Epoch: 1, Seq: seq, Body: b}, api.OK)
	}
	wantAsItWas(t, "In", room)
	spoil(b)
	// The same bytes, that are others now, change nothing in what is kept.
	wantNothing(t, "P6.1", l, api.Frame{Epoch: 1, Seq: 2, Body: b}, api.OK)
	come, e := l.In(api.Frame{Epoch: 1, Seq: 1, Body: body(1)})
	if !sameBodies(come, [][]byte{body(1), theBody, theBody}) || e != api.OK {
		t.Errorf("P6.5: with bodies changed behind In there come %q with error %d", come, e)
	}
	spoil(b)
	for _, c := range come {
		spoil(c)
	}
	wantAsItWas(t, "a change of what came", room)
	for seq := 4; seq < 15; seq++ {
		wantComes(t, "P6.1", l, api.Frame{Epoch: 1, Seq: seq, Body: body(seq)}, body(seq))
	}
	wantComes(t, "P6.5", l, api.Frame{Epoch: 1, Seq: 15, Body: body(15)}, body(15), theBody)
}

// What Out answers is spoilt by whom it was told to, body by body and then the whole list, with its spare room.
func TestOutAnswersNewMemory(t *testing.T) {
	for _, count := range []int{1, 2, 15, 16, 17, 40} {
		l := sending(t, 1, count)
		want := frames(1, 0, 1, min(count, 16))
		out, again := l.Out(), l.Out()
		for i := range out {
			spoil(out[i].Body)
			if !sameFrames(out[i+1:], want[i+1:]) {
				t.Fatalf("R3: with the body of frame %d changed, those behind it are %v", i, briefFrames(out[i+1:]))
			}
			wantOut(t, "R3", l, want)
		}
		out = out[:cap(out)]
		clear(out)
		if !sameFrames(again, want) {
			t.Errorf("R3: with one answer of Out changed another one is %v", briefFrames(again))
		}
		wantOut(t, "R3", l, want)
		wantNothing(t, "P6.1", l, api.Frame{Epoch: 1, Ack: 1}, api.OK)
		wantOut(t, "R3", l, frames(1, 0, 2, min(count, 17)))
	}
}

// Appending within a body's spare room reaches no other body, and nothing that is kept.
func TestSpareRoomOfAnswers(t *testing.T) {
	l := sending(t, 1, 20)
	out := l.Out()
	for i := range out {
		_ = append(out[i].Body, "more than there is"...)
	}
	_ = append(out, api.Frame{Seq: 99})
	if !sameFrames(out, frames(1, 0, 1, 16)) {
		t.Errorf("R3: with something put behind bodies, Out is %v", briefFrames(out))
	}
	wantOut(t, "R3", l, frames(1, 0, 1, 16))
	come := manyAtOnce(t, l)
	for i := range come {
		_ = append(come[i], "more than there is"...)
	}
	_ = append(come, []byte("one more"))
	if !sameBodies(come, bodies(1, 10)) {
		t.Errorf("R3: with something put behind bodies, what came is %q", briefBodies(come))
	}
	wantKept(t, l)
}

// manyAtOnce makes 1 to 10 come at once, and 12 and 14 be kept.
func manyAtOnce(t *testing.T, l *link.End) [][]byte {
	t.Helper()
	for _, seq := range []int{14, 12, 10, 9, 8, 7, 6, 5, 4, 3, 2} {
		wantNothing(t, "P6.1", l, api.Frame{Epoch: 1, Seq: seq, Body: body(seq)}, api.OK)
	}
	come, e := l.In(api.Frame{Epoch: 1, Seq: 1, Body: body(1)})
	if !sameBodies(come, bodies(1, 10)) || e != api.OK {
		t.Fatalf("P6.1: there come %q with error %d", briefBodies(come), e)
	}
	return come
}

// wantKept holds that 12 and 14 are kept as they were.
func wantKept(t *testing.T, l *link.End) {
	t.Helper()
	wantComes(t, "R3", l, api.Frame{Epoch: 1, Seq: 11, Body: body(11)}, body(11), body(12))
	wantComes(t, "R3", l, api.Frame{Epoch: 1, Seq: 13, Body: body(13)}, body(13), body(14))
}

func TestInAnswersNewMemory(t *testing.T) {
	l := link.New(1)
	come := manyAtOnce(t, l)
	for i := range come {
		spoil(come[i])
		if !sameBodies(come[i+1:], bodies(i+2, 10)) {
			t.Fatalf("R3: with body %d changed, those behind it are %q", i+1, briefBodies(come[i+1:]))
		}
	}
	clear(come[:cap(come)])
	wantKept(t, l)
	wantCounts(t, "R3", l, 0, 14)
}

// From end to end: each frame, and what comes by it, is spoilt as soon as it is over.
func TestEndsShareNothing(t *testing.T) {
	a, b := sending(t, 1, 40), link.New(1)
	var came [][]byte
	for range 3 {
		out := a.Out()
		slices.Reverse(out)
		for _, f := range out {
			come, e := b.In(f)
			if e != api.OK {
				t.Fatalf("P6.1: In of %s has error %d", briefFrame(f), e)
			}
			for _, c := range come {
				came = append(came, slices.Clone(c))
				spoil(c)
			}
			spoil(f.Body)
		}
		note := b.Note(nil)
		wantNothing(t, "P6.1", a, note, api.OK)
	}
	if !sameBodies(came, bodies(1, 40)) {
		t.Errorf("R3: with all changed that is over, there came %q", briefBodies(came))
	}
	wantCounts(t, "R3", a, 0, 0)
}

// heap is how many bytes are in use.
func heap() uint64 {
	runtime.GC()
	var m runtime.MemStats
	runtime.ReadMemStats(&m)
	return m.HeapAlloc
}

// bring takes all that waits at one end over to the other one, each frame twice and out of order, and the Note back.
func bring(t *testing.T, from, to *link.End) {
	t.Helper()
	for range 2 {
		out := from.Out()
		slices.Reverse(out)
		for _, f := range out {
			if _, e := to.In(f); e != api.OK {
				t.Fatalf("P6.1: In of %s has error %d", briefFrame(f), e)
			}
		}
	}
	wantNothing(t, "P6.1", from, to.Note(nil), api.OK)
	wantCounts(t, "P6.1", from, 0, 0)
}

// What is acknowledged, doubled or handed out isn't asked for any more, and so isn't to be kept.
func TestNoMoreIsKeptThanIsNeeded(t *testing.T) {
	a, b := link.New(1), link.New(1)
	wantSent(t, "P6.1", a, body(0), api.OK)
	before := heap()
	wantLittleKept := func(when string) {
		t.Helper()
		if after := heap(); after > before+1<<20 {
			t.Errorf("rule 8 of the language: %s two ends keep %d bytes", when, after-before)
		}
	}
	for range 4 {
		for range 10 {
			wantSent(t, "P6.1", a, make([]byte, 1<<20), api.OK)
		}
		bring(t, a, b)
		wantLittleKept("with nothing under way")
		wantSent(t, "P6.1", a, nil, api.OK)
		wantLittleKept("with an empty body that waits")
	}
	runtime.KeepAlive(a)
	runtime.KeepAlive(b)
}
