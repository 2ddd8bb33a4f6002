package inbox_test

import (
	"fmt"
	"runtime"
	"slices"
	"strings"
	"testing"

	"confluence/api"
	"confluence/inbox"
)

// inRoom is a commit whose versions stand in the midst of others, with spare room behind them; and all of that room.
func inRoom(r api.Rec) (api.Rec, []api.Ver) {
	room := sized(3, 1000, -1, -1).Vers
	room = append(room, r.Vers...)
	room = append(room, sized(12, 2000, -2, -2).Vers...)
	r.Vers = room[3 : 3+len(r.Vers)]
	return r, room
}

// spoil overwrites versions with their spare room.
func spoil(l []api.Ver) {
	l = l[:cap(l)]
	for i := range l {
		l[i] = api.Ver{Key: "spoilt", Val: l[i].Key, TS: 5000 - l[i].TS, Tx: i}
	}
}

// grow puts something into the spare room of versions.
func grow(l []api.Ver) {
	for i := range 10 {
		l = append(l, api.Ver{Key: "more than there is", Tx: i})
	}
}

// some are commits of none, one and many versions.
func some() []api.Rec {
	return []api.Rec{sized(0, 2, 0, 1), writing(of(3), make([]api.Ver, 0, 6)...), sized(1, 3, 0, 1), sized(3, 3, 0, 2), writing(of(4), strange()...), sized(8, 9, 0, 4), sized(40, 12, 0, 5)}
}

// having is a scene of a box from 0 on for which these commits came.
func having(t *testing.T, commits ...api.Rec) *scene {
	t.Helper()
	s := begun(t, 0)
	s.put(api.OK, 0, commits...)
	s.promise = "R3"
	return s
}

// What is handed in stays, also where it is refused; its spare room too.
func TestWhatIsHandedInStays(t *testing.T) {
	for _, was := range some() {
		r, room := inRoom(was)
		var none *inbox.Box
		none.Put(0, r)
		s := begun(t, 3)
		s.put(api.ErrOld, 2, r)
		s.put(api.ErrNone, 4, r)
		s.put(api.OK, 3, r, r)
		s.put(api.ErrOld, 3, r)
		one, _ := s.box.Peek()
		grow(one.Vers)
		spoil(one.Vers)
		for range 2 {
			_, one, _ = s.box.Next()
			grow(one.Vers)
			spoil(one.Vers)
		}
		s.finish(api.OK, 4, 3)
		if _, as := inRoom(was); !slices.Equal(room, as) {
			t.Errorf("R3: behind calls with %s its versions, with what is around them, are %s", quoted(was), quoted(api.Rec{Vers: room}))
		}
	}
	s := full(t, 0, 0)
	r, room := inRoom(of(7))
	s.put(api.ErrFull, api.MostQueue, r)
	if _, as := inRoom(of(7)); !slices.Equal(room, as) {
		t.Errorf("R3: behind Put of a full box its versions, with what is around them, are %s", quoted(api.Rec{Vers: room}))
	}
}

// With what was handed in changed behind the call, what is handed out is as it was.
func TestWhatIsHandedInIsNotKept(t *testing.T) {
	s := having(t)
	for i, was := range some() {
		r, room := inRoom(was)
		s.put(api.OK, i, r)
		spoil(room)
		grow(r.Vers)
	}
	for i, was := range some() {
		s.peek(was)
		s.next(i, was)
	}
	s.none()
}

// What is refused for a place leaves nothing of itself with the one that came for it.
func TestWhatIsRefusedIsNotKept(t *testing.T) {
	s := having(t, of(3))
	r, room := inRoom(writing(of(3), strange()...))
	s.put(api.ErrOld, 0, r)
	s.put(api.ErrNone, 2, r)
	spoil(room)
	s.peek(of(3))
	s.next(0, of(3))
	s.none()
}

// One list of versions that is handed in by several commits isn't shared by what is handed out of them.
func TestOneListOfSeveralCommits(t *testing.T) {
	l := strange()
	s := having(t, writing(of(2), l...), writing(of(3), l...), writing(of(4), l[:5]...))
	spoil(l)
	_, one, _ := s.box.Next()
	grow(one.Vers[:2])
	spoil(one.Vers)
	s.peek(writing(of(3), strange()...))
	s.next(1, writing(of(3), strange()...), writing(of(4), strange()[:5]...))
}

// What Peek hands out is new memory each time, and none of what Next hands out.
func TestPeekIsNewMemory(t *testing.T) {
	for _, was := range some() {
		s := having(t, was)
		first, _ := s.box.Peek()
		other, _ := s.box.Peek()
		grow(first.Vers)
		spoil(first.Vers)
		if !isSame(other, was) {
			t.Errorf("R3: with what Peek answered changed, another answer is %s, not %s", quoted(other), quoted(was))
		}
		s.peek(was)
		_, own, _ := s.box.Next()
		if !isSame(own, was) {
			t.Errorf("R3: with what Peek answered changed, Next answers %s, not %s", quoted(own), quoted(was))
		}
		grow(own.Vers)
		spoil(own.Vers)
		if !isSame(other, was) {
			t.Errorf("R3: with what Next answered changed, what Peek answered is %s, not %s", quoted(other), quoted(was))
		}
	}
}

// What Next hands out is new memory each time.
func TestNextIsNewMemory(t *testing.T) {
	s := having(t, some()...)
	var l []api.Rec
	for range some() {
		_, r, _ := s.box.Next()
		l = append(l, r)
	}
	for i, was := range some() {
		if !isSame(l[i], was) {
			t.Errorf("R3: with others changed that Next answered, one is %s, not %s", quoted(l[i]), quoted(was))
		}
		grow(l[i].Vers)
		spoil(l[i].Vers)
	}
	s.none()
	s.put(api.OK, len(some()), some()...)
	s.next(len(some()), some()...)
}

// With one that was handed out changed, those that wait stay as they were, and the other way round.
func TestWhatWasToldStays(t *testing.T) {
	for _, was := range some() {
		s := having(t, was, was, was)
		first, _ := s.box.Peek()
		_, second, _ := s.box.Next()
		grow(second.Vers)
		s.put(api.OK, 3, some()...)
		third, _ := s.box.Peek()
		spoil(third.Vers)
		s.next(1, was, was)
		s.finish(api.OK, 2, 0, 1)
		s.next(3, some()...)
		for _, r := range []api.Rec{first, second} {
			if !isSame(r, was) {
				t.Errorf("R3: behind other calls what was handed out is %s, not %s", quoted(r), quoted(was))
			}
		}
	}
}

// Nothing that is kept belongs to two boxes, and no call of one changes another one.
func TestBoxesAreApart(t *testing.T) {
	n := numbers(71)
	for run := range 150 {
		one, other := newWalker(t, 3, false, map[string]int{}), newWalker(t, run%5, true, map[string]int{})
		one.promise, other.promise = "R2", "R2"
		for range 60 {
			one.step(&n)
			other.wantSame()
			other.step(&n)
			one.wantSame()
		}
		one.end()
		other.end()
		wantFirst(begun(t, 3), 3)
		if t.Failed() {
			return
		}
	}
}

// twin makes of a second, silent box those calls alone that aren't refused.
type twin struct {
	*walker
	silent *scene
}

// step makes one call of both; asked: behind it the first box is asked for all that it tells, else the silent one for what there is of times.
func (w *twin) step(n *numbers, asked bool) (refused bool) {
	w.Helper()
	at := w.p.first + len(w.p.came) + n.below(4) - 1
	switch n.below(5) {
	case 0, 1:
		r := commit(n)
		e := w.p.put(at, r)
		w.scene.put(e, at, r)
		if refused = e != api.OK; !refused {
			w.silent.put(e, at, r)
		}
	case 2:
		if i := w.p.waits(); i < len(w.p.came) {
			w.silent.next(w.p.first+i, w.p.came[i].r)
		}
		w.next()
	case 3:
		at = w.place(n, w.p.applied()+1)
		e := w.p.finish(at)
		w.scene.finish(e, at)
		if refused = e != api.OK; !refused {
			w.silent.finish(e, at)
		}
	default:
		w.heart(n)
		last := w.p.hearts[len(w.p.hearts)-1]
		w.silent.heart(last.upto, last.count)
	}
	if asked {
		w.wantSame()
	} else {
		w.silent.want(w.p.applied(), w.p.got())
	}
	return refused
}

// end wants that both boxes go on in the same way to their ends.
func (w *twin) end() {
	w.Helper()
	for i := w.p.waits(); i < len(w.p.came); i++ {
		w.silent.next(w.p.first+i, w.p.came[i].r)
	}
	for i, e := range w.p.came {
		if !e.finished {
			w.silent.finish(api.OK, w.p.first+i)
		}
	}
	w.walker.end()
	w.silent.none()
	w.silent.want(w.p.applied(), w.p.got())
}

// The same calls answer the same again, whether a box is asked in between or not; and a call that has an error has changed nothing that a later call can tell.
func TestErrorsAndAskingChangeNothing(t *testing.T) {
	n, refused := numbers(72), 0
	for run := range 300 {
		w := &twin{newWalker(t, run%4, false, map[string]int{}), begun(t, run%4)}
		w.promise, w.silent.promise = "R6", "R6, or R2"
		for range 80 {
			if w.step(&n, run%2 == 0) {
				refused++
			}
		}
		w.end()
		if t.Failed() {
			return
		}
	}
	if refused < 6000 {
		t.Errorf("R6: in long runs but %d calls had an error", refused)
	}
}

// heap is how many bytes are in use.
func heap() uint64 {
	runtime.GC()
	var m runtime.MemStats
	runtime.ReadMemStats(&m)
	return m.HeapAlloc
}

// wantLittleKept wants that no more than half a megabyte is in use than there was.
func wantLittleKept(t *testing.T, when string, before uint64) {
	t.Helper()
	if after := heap(); after > before+1<<19 {
		t.Errorf("rule 8 of the language: %s a box keeps %d bytes", when, after-before)
	}
}

// Long texts of which pieces came, and commits that were refused, aren't asked for any more, and so aren't to be kept.
func TestOfWhatCameNoMoreIsKeptThanIsNeeded(t *testing.T) {
	b := inbox.New(0)
	before := heap()
	for i := range 40 {
		text := strings.Repeat(fmt.Sprintf("%02d", i), 1<<19)
		room := sized(5000, 1, 1, 1).Vers
		room[0] = api.Ver{Key: text[:4], Val: text[4:60]}
		for at, want := range map[int]api.Errno{i - 1: api.ErrOld, i + 1: api.ErrNone} {
			if e := b.Put(at, writing(of(1), room...)); e != want {
				t.Errorf("P14.1: Put(%d, ..) answers %d, not %d", at, int(e), int(want))
			}
		}
		if e := b.Put(i, writing(of(1), room[:1]...)); e != api.OK {
			t.Errorf("P14.1: Put(%d, ..) answers %d", i, int(e))
		}
	}
	wantLittleKept(t, "with pieces of long texts that wait", before)
	runtime.KeepAlive(b)
}

// What was handed out, and what is applied, isn't asked for any more either.
func TestOfWhatIsOverNothingIsKept(t *testing.T) {
	s := begun(t, 0)
	before := heap()
	large := sized(100, 1, 1, 1)
	s.put(api.OK, 0, slices.Repeat([]api.Rec{large}, 3000)...)
	for range 3000 {
		s.box.Next()
	}
	s.calls = nil
	wantLittleKept(t, "with commits that were handed out", before)
	for i := 2999; i >= 0; i-- {
		s.finish(api.OK, i)
	}
	s.calls = nil
	wantLittleKept(t, "with commits that are applied", before)
	for i := range 20000 {
		s.put(api.OK, 3000+i, large)
		s.box.Next()
		s.finish(api.OK, 3000+i)
		s.calls = nil
	}
	wantLittleKept(t, "with commits that came and went one by one", before)
	s.want(23000, 0)
}

// Nor are hearts that are reached, that another one of their count outdoes, or that say no more than one that is reached.
func TestOfHeartsNoMoreIsKeptThanIsNeeded(t *testing.T) {
	b := inbox.New(0)
	before := heap()
	for i := range 200000 {
		b.Put(i, api.Rec{})
		b.Next()
		b.Heart(uint64(2*i), 1<<40)
		b.Heart(uint64(10+i), i+1)
		b.Done(i)
	}
	wantLittleKept(t, "with hearts that are reached, or that others outdo,", before)
	for i := range 200000 {
		b.Heart(uint64(i), 1<<41+i)
		b.Heart(200009, 1<<42+i)
		b.Heart(0, 1<<43+i)
	}
	wantLittleKept(t, "with hearts that say nothing new", before)
	if b.Applied() != 200000 || b.Got() != 200009 {
		t.Errorf("P14.1: behind these calls Applied answers %d, Got %d", b.Applied(), b.Got())
	}
}
