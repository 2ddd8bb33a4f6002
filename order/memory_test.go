package order_test

import (
	"fmt"
	"runtime"
	"slices"
	"strings"
	"testing"

	"confluence/api"
	"confluence/order"
)

// inRoom is a commit whose versions stand in the midst of others, with spare room behind them; and all of that room.
func inRoom(r api.Rec) (api.Rec, []api.Ver) {
	room := written(3, 1000, -1, -1)
	room = append(room, r.Vers...)
	room = append(room, written(12, 2000, -2, -2)...)
	r.Vers = room[3 : 3+len(r.Vers)]
	return r, room
}

// spoil overwrites versions with their spare room.
func spoil(l []api.Ver) {
	l = l[:cap(l)]
	for i := range l {
		l[i] = api.Ver{Key: "spoilt", Val: l[i].Key, TS: 5000 - l[i].TS, Tx: i}
	}
}

// grow puts something into the spare room of versions.
func grow(l []api.Ver) {
	for i := range 10 {
		l = append(l, api.Ver{Key: "more than there is", Tx: i})
	}
}

// some are commits of none, one and many versions, by rising marks.
func some() []api.Rec {
	return []api.Rec{sized(0, 2, 0, 1), writing(rec(3, -1, 1), make([]api.Ver, 0, 6)...), sized(1, 3, 0, 1), sized(3, 3, 0, 2), writing(rec(4, 1, 1), strange()...), sized(8, 9, 0, 4), sized(40, 12, 0, 5)}
}

// What is handed in stays, also where it is refused; its spare room too.
func TestWhatIsHandedInStays(t *testing.T) {
	for _, was := range some() {
		for _, bound := range []uint64{0, 3, latest} {
			r, room := inRoom(was)
			l := order.New()
			l.Release(bound)
			var none *order.Log
			none.Decide(r)
			order.Copy(r)
			l.Decide(r)
			l.Decide(r)
			l.Release(latest)
			l.Decide(r)
			for _, own := range l.From(0) {
				spoil(own.Vers)
			}
			if _, as := inRoom(was); !slices.Equal(room, as) {
				t.Errorf("R3: behind calls with %s its versions, with what is around them, are %s", quoted(was), quoted(api.Rec{Vers: room}))
			}
		}
	}
}

// With what was handed in changed behind the call, ahead of a release or behind it, what is told stays as it was.
func TestWhatIsHandedInIsNotKept(t *testing.T) {
	for _, ahead := range []bool{true, false} {
		s := made(t)
		s.promise = "R3"
		var rooms [][]api.Ver
		for _, was := range some() {
			r, room := inRoom(was)
			s.decide(api.OK, r)
			rooms = append(rooms, room)
		}
		if !ahead {
			s.release(latest, len(some()))
		}
		for _, room := range rooms {
			spoil(room)
		}
		if ahead {
			s.release(latest, len(some()))
		}
		s.want(0, some()...)
	}
}

// One list of versions that is handed in by several commits isn't shared by what is told of them.
func TestOneListOfSeveralCommits(t *testing.T) {
	l := strange()
	one, other := writing(rec(2, 0, 1), l...), writing(rec(2, 0, 2), l[:5]...)
	s := stableOf(t, one, other)
	s.promise = "R3"
	spoil(l)
	var first []api.Ver
	for i, r := range s.log.From(0) {
		if i == 0 {
			first = r.Vers
		} else {
			spoil(first)
			grow(first[:2])
			if !slices.Equal(r.Vers, strange()[:5]) {
				t.Errorf("R3: a commit's versions are changed by another one's: %s", quoted(r))
			}
		}
	}
	s.want(0, writing(one, strange()...), writing(other, strange()[:5]...))
}

// What Copy answers has nothing of what was handed in, and nothing of another answer.
func TestCopyIsNewMemory(t *testing.T) {
	for _, was := range some() {
		r, room := inRoom(was)
		one, other := order.Copy(r), order.Copy(r)
		spoil(room)
		if !isSame(one, was) || !isSame(other, was) {
			t.Errorf("R3: with the commit changed behind it, Copy of %s is %s", quoted(was), quoted(one))
		}
		grow(one.Vers)
		spoil(one.Vers)
		if !isSame(other, was) {
			t.Errorf("R3: with another copy changed, Copy of %s is %s", quoted(was), quoted(other))
		}
		r, room = inRoom(was)
		one = order.Copy(r)
		grow(one.Vers)
		spoil(one.Vers)
		if _, as := inRoom(was); !slices.Equal(room, as) {
			t.Errorf("R3: with the copy of %s changed, what was handed in is %s", quoted(was), quoted(api.Rec{Vers: room}))
		}
	}
}

// What From tells is new memory each time, from whatever place on and however often.
func TestFromIsNewMemory(t *testing.T) {
	s := stableOf(t, some()...)
	s.promise = "R3"
	commits := s.log.From(0)
	once, _ := collected(commits, 0)
	again, _ := collected(commits, 0)
	later, _ := collected(s.log.From(0), 0)
	for _, r := range once {
		grow(r.Vers)
		spoil(r.Vers)
	}
	for _, l := range [][]api.Rec{again, later} {
		if !slices.EqualFunc(l, some(), isSame) {
			t.Errorf("R3: with what From told changed, what it told another time is %s", told(l))
		}
	}
	s.want(0, some()...)
	for at := range some() {
		for _, r := range s.log.From(at) {
			grow(r.Vers)
			spoil(r.Vers)
		}
		s.want(0, some()...)
	}
	wantTold(t, "R3", "From, made ahead of the changes,", commits, 0, some())
}

// What was told stays, whatever becomes of the log, and of what else is told.
func TestWhatWasToldStays(t *testing.T) {
	s := made(t, some()...)
	s.release(4, 5)
	l, _ := collected(s.log.From(0), 0)
	for i, r := range l {
		grow(r.Vers)
		for k, other := range l {
			if i != k && !isSame(other, some()[k]) {
				t.Errorf("R3: with a commit's versions grown, another one is %s", quoted(other))
			}
		}
	}
	s.decide(api.OK, times(20, 21, 5)...)
	s.release(latest, 5)
	if !slices.EqualFunc(l, some()[:5], isSame) {
		t.Errorf("R3: behind other calls what was told is %s", told(l))
	}
}

// Nothing that is kept belongs to two logs, and no call of one changes another one.
func TestLogsAreApart(t *testing.T) {
	n := numbers(61)
	for range 100 {
		one, other := newWalker(t, 12, map[string]int{}), newWalker(t, 6, map[string]int{})
		one.promise, other.promise = "R2", "R2"
		for range 60 {
			one.step(&n)
			other.want(len(other.p.waiting), other.p.stable...)
			other.step(&n)
			one.want(len(one.p.waiting), one.p.stable...)
		}
		one.wantWaiting(one.p.stable, one.p.waiting)
		other.wantWaiting(other.p.stable, other.p.waiting)
		made(t).want(0)
		if t.Failed() {
			return
		}
	}
}

// The same calls answer the same again, whether the log is asked in between or not.
func TestAskingChangesNothing(t *testing.T) {
	n := numbers(62)
	for range 150 {
		w, silent := newWalker(t, 10, map[string]int{}), made(t)
		w.promise, silent.promise = "R2", "R2"
		for range 60 {
			r, time := w.commit(&n), w.time(&n)
			e := w.p.decide(r)
			w.decide(e, r)
			silent.decide(e, r)
			w.want(len(w.p.waiting), w.p.stable...)
			if n.below(4) == 0 {
				count := w.p.release(time)
				w.release(time, count)
				silent.release(time, count)
			}
		}
		silent.wantWaiting(w.p.stable, w.p.waiting)
		if t.Failed() {
			return
		}
	}
}

// A call that has an error has changed nothing that a later call can tell.
func TestErrorsChangeNothing(t *testing.T) {
	n, refused := numbers(63), 0
	for range 150 {
		wrong, right := newWalker(t, 6, map[string]int{}), made(t)
		wrong.promise, right.promise = "R6", "R6"
		for range 80 {
			r, time := wrong.commit(&n), wrong.time(&n)
			if e := wrong.p.decide(r); e == api.OK {
				wrong.decide(e, r)
				right.decide(e, r)
			} else {
				wrong.decide(e, r)
				refused++
			}
			if n.below(5) == 0 {
				count := wrong.p.release(time)
				wrong.release(time, count)
				right.release(time, count)
			}
			wrong.want(right.log.Waiting(), wrong.p.stable...)
			right.want(wrong.log.Waiting(), wrong.p.stable...)
		}
		wrong.wantWaiting(wrong.p.stable, wrong.p.waiting)
		right.wantWaiting(wrong.p.stable, wrong.p.waiting)
		if t.Failed() {
			return
		}
	}
	if refused < 1500 {
		t.Errorf("R6: in long runs but %d calls had an error", refused)
	}
}

// heap is how many bytes are in use.
func heap() uint64 {
	runtime.GC()
	var m runtime.MemStats
	runtime.ReadMemStats(&m)
	return m.HeapAlloc
}

// Long texts of which pieces came, and the room of those that waited, aren't asked for any more, and so aren't to be kept.
func TestNoMoreIsKeptThanIsNeeded(t *testing.T) {
	l := order.New()
	before := heap()
	wantLittleKept := func(when string) {
		t.Helper()
		if after := heap(); after > before+1<<19 {
			t.Errorf("rule 8 of the language: %s a log keeps %d bytes", when, after-before)
		}
	}
	for i := range 40 {
		text := strings.Repeat(fmt.Sprintf("%02d", i), 1<<19)
		room := written(5000, 1, 1, 1)
		room[0] = api.Ver{Key: text[:4], Val: text[4:60]}
		wantAnswer(t, "P13.1", "Decide", l.Decide(writing(rec(uint64(i+1), 0, 1), room[:1]...)), api.OK)
		wantAnswer(t, "P13.1", "Decide again", l.Decide(writing(rec(uint64(i+1), 0, 1), room...)), api.ErrThere)
		wantAnswer(t, "P13.1", "Decide of time 0", l.Decide(writing(rec(0, 0, 1), room...)), api.ErrOld)
	}
	wantLittleKept("with pieces of long texts that wait")
	wantAnswer(t, "P13.1", "Release", l.Release(40), 40)
	wantLittleKept("with pieces of long texts that are stable")
	other := order.New()
	before = heap()
	for i := range 20000 {
		wantAnswer(t, "P13.1", "Decide", other.Decide(api.Rec{TS: uint64(1 + i%2), Tx: i}), api.OK)
	}
	wantAnswer(t, "P13.1", "Release", other.Release(1), 10000)
	wantAnswer(t, "P13.1", "Release", other.Release(2), 10000)
	// Half as much again as they need: 48 bytes each, without versions.
	if after := heap(); after > before+20000*48*3/2 {
		t.Errorf("rule 8 of the language: with all of 20000 commits stable a log keeps %d bytes", after-before)
	}
	runtime.KeepAlive(l)
	runtime.KeepAlive(other)
}
