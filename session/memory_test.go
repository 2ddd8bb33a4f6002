package session_test

import (
	"fmt"
	"runtime"
	"slices"
	"strings"
	"testing"

	"confluence/api"
	"confluence/session"
)

// spoil overwrites versions with their spare room.
func spoil(l []api.Ver) {
	l = l[:cap(l)]
	for i := range l {
		l[i] = api.Ver{Key: "spoilt", Val: l[i].Key, Gone: true, TS: 5000, Tx: i}
	}
}

// grow puts something into the spare room of versions.
func grow(l []api.Ver) {
	for i := range 10 {
		l = append(l, api.Ver{Key: "more than there is", Tx: i})
	}
}

// Writing over what Writes hands out changes nothing of the session, nor of another answer.
func TestWritesIsNewMemory(t *testing.T) {
	for count := range api.MostWrites + 1 {
		s := opened(t)
		s.promise = "R3"
		var l []api.Ver
		for _, key := range eight()[:count] {
			l = append(l, written(key, "of "+key))
		}
		s.write(api.OK, l...)
		first, other := s.session.Writes(), s.session.Writes()
		grow(first)
		spoil(first)
		if !slices.Equal(other, l) {
			s.wrong("with what Writes answered changed, another answer is %s", quotedAll(other))
		}
		s.writes(l...)
		for _, v := range l {
			s.look(1, v)
		}
		s.unknown("spoilt", "more than there is")
		spoil(other)
		s.commit(api.OK, at(9))
		s.begin(0, 5)
		s.writes()
		for _, v := range l {
			s.look(2, by(at(9), v))
		}
		s.unknown("spoilt", "more than there is")
	}
}

// What Writes handed out stays as it was, whatever is called behind it.
func TestWhatWritesToldStays(t *testing.T) {
	n, made := numbers(71), 0
	for range 200 {
		w := newWalker(t, eight(), map[string]int{})
		w.promise = "R3"
		var told, as [][]api.Ver
		for range 60 {
			w.step(&n)
			l := w.session.Writes()
			told, as = append(told, l), append(as, slices.Clone(l))
		}
		for i, l := range told {
			if !slices.Equal(l, as[i]) {
				w.wrong("what Writes answered as %s is %s", quotedAll(as[i]), quotedAll(l))
			}
		}
		made += w.count["Write 0"]
		if t.Failed() {
			return
		}
	}
	if made < 1000 {
		t.Errorf("R3: in long runs but %d writes were made", made)
	}
}

// Of one key written again and again, and of keys put in ahead of others, each answer is apart from the others.
func TestAnswersShareNothing(t *testing.T) {
	keys := eight()
	slices.Reverse(keys)
	s := opened(t)
	s.promise = "R3"
	var told [][]api.Ver
	for _, key := range keys {
		for _, val := range []string{"x", "y"} {
			s.write(api.OK, written(key, val))
			told = append(told, s.session.Writes())
		}
	}
	for i := range told {
		as := slices.Clone(told[i])
		for k := range i {
			grow(told[k])
			spoil(told[k])
		}
		if !slices.Equal(told[i], as) || len(as) != i/2+1 {
			s.wrong("with those changed that were told ahead of it, what Writes answered as %s is %s", quotedAll(as), quotedAll(told[i]))
		}
	}
}

// Nothing that is kept belongs to two sessions, and no call of one changes another one.
func TestSessionsAreApart(t *testing.T) {
	n := numbers(72)
	for range 100 {
		first, other := newWalker(t, eight(), map[string]int{}), newWalker(t, eight()[:4], map[string]int{})
		first.promise, other.promise = "R2", "R2"
		for range 80 {
			first.step(&n)
			other.wantSame()
			other.step(&n)
			first.wantSame()
		}
		wantFirst(begun(t))
		if t.Failed() {
			return
		}
	}
}

// twin makes of a second, silent session those calls alone that aren't refused.
type twin struct {
	*walker
	silent *scene
}

// step makes one call of both; whether it was refused.
func (w *twin) step(n *numbers) bool {
	w.Helper()
	e := api.OK
	switch n.below(8) {
	case 0, 1:
		stable := w.time(n)
		if e = w.p.begin(stable); e == api.OK {
			w.scene.begin(stable, w.p.snap())
			w.silent.begin(stable, w.p.snap())
		} else {
			w.refuseBegin(e, stable)
		}
	case 2:
		m := w.mark(n)
		e = w.p.commit(m)
		w.scene.commit(e, m)
		if e == api.OK {
			w.silent.commit(e, m)
		}
	case 3:
		e = w.p.close()
		w.scene.close(e)
		if e == api.OK {
			w.silent.close(e)
		}
	default:
		v := w.version(n)
		e = w.p.write(v)
		w.scene.write(e, v)
		if e == api.OK {
			w.silent.write(e, v)
		}
	}
	return e != api.OK
}

// The same calls answer the same again, whether a session is asked in between or not; and a call that has an error has changed nothing that a later call can tell.
func TestErrorsAndAskingChangeNothing(t *testing.T) {
	n, refused := numbers(73), 0
	for run := range 400 {
		w := &twin{newWalker(t, append(strange()[:6], eight()...), map[string]int{}), begun(t)}
		w.promise, w.silent.promise = "R6", "R6, or R2"
		for range 60 {
			if w.step(&n) {
				refused++
			}
			if run%2 == 0 {
				w.wantSame()
			}
		}
		w.wantSame()
		(&walker{scene: w.silent, p: w.p, keys: w.keys, count: w.count}).wantSame()
		if t.Failed() {
			return
		}
	}
	if refused < 6000 {
		t.Errorf("R6: in long runs but %d calls had an error", refused)
	}
}

// heap is how many bytes are in use.
func heap() uint64 {
	runtime.GC()
	var m runtime.MemStats
	runtime.ReadMemStats(&m)
	return m.HeapAlloc
}

// wantLittleKept wants that no more than half a megabyte is in use than there was.
func wantLittleKept(t *testing.T, when string, before uint64) {
	t.Helper()
	if after := heap(); after > before+1<<19 {
		t.Errorf("rule 8 of the language: %s a session keeps %d bytes", when, after-before)
	}
}

// Long texts of which pieces were written aren't asked for, and so aren't to be kept.
func TestOfTextsNoMoreIsKeptThanIsNeeded(t *testing.T) {
	s := session.New()
	before := heap()
	piece := func(i, from, upTo int) string {
		return strings.Repeat(fmt.Sprintf("%02d", i), 1<<19)[from:upTo]
	}
	s.Begin(0)
	for i := range 40 {
		s.Write(fmt.Sprint("k", i%8), piece(i, 0, 60), false)
		s.Write(piece(i, 0, 6), "x", false)
		s.Look(piece(i, 0, 6))
	}
	wantLittleKept(t, "with values that are pieces of long texts", before)
	s.Commit(at(9))
	for i := range 40 {
		s.Begin(0)
		s.Write(piece(i, 0, 6), piece(i, 6, 12), false)
		s.Write(piece(i, 0, 6), "", true)
		s.Commit(at(uint64(10 + i)))
	}
	wantLittleKept(t, "with keys that are pieces of long texts", before)
	runtime.KeepAlive(s)
}

// Nor is what was written ahead, what was closed, or what is seen.
func TestOfWhatIsOverNothingIsKept(t *testing.T) {
	s := begun(t)
	before := heap()
	for i := range uint64(30000) {
		s.begin(i, i)
		for k := range 8 {
			s.write(api.OK, written(fmt.Sprint(i, " ", k), long(60)))
		}
		if i%3 == 0 {
			s.close(api.OK)
		} else {
			s.commit(api.OK, at(i+2))
		}
		s.calls = nil
	}
	wantLittleKept(t, "with commits that are seen", before)
	for i := range uint64(30000) {
		s.begin(0, 29999)
		s.write(api.OK, written("a", fmt.Sprint(i)), gone("b"))
		s.commit(api.OK, at(40000+i))
		s.calls = nil
	}
	wantLittleKept(t, "with commits of the same keys", before)
	s.want(false, 29999, 69999)
}
