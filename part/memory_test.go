package part_test

import (
	"runtime"
	"slices"
	"testing"

	"confluence/api"
	"confluence/part"
)

// Nothing that is kept belongs to two sides, and no call of one changes another one.
func TestSidesAreApart(t *testing.T) {
	n := numbers(71)
	for run := range 150 {
		first, other := newWalker(t, map[string]int{}), newWalker(t, map[string]int{})
		first.promise, other.promise = "R2", "R2"
		for _, c := range starts(&n, run) {
			first.wantSame(c)
		}
		for range 80 {
			first.wantSame(first.anyCall(&n))
			other.want(other.p.open(), other.p.clock())
			other.wantSame(other.anyCall(&n))
			first.want(first.p.open(), first.p.clock())
		}
		begun(t).want(0, 0)
		if t.Failed() {
			return
		}
	}
}

// silent makes calls of a new side, that isn't asked in between, and wants the same answers.
func silent(t *testing.T, calls []call, want []answer) *part.Part {
	t.Helper()
	p := part.New()
	for i, c := range calls {
		if got := c.of(p); got != want[i] {
			t.Errorf("R2: the same calls again: %s answers %d, %d; not %d, %d", c, got.stamp, int(got.e), want[i].stamp, int(want[i].e))
		}
	}
	return p
}

// The same calls answer the same again, whether a side is asked in between or not.
func TestTheSameCallsAnswerTheSame(t *testing.T) {
	n := numbers(72)
	for run := range 100 {
		w := newWalker(t, map[string]int{})
		w.promise = "R2"
		var calls []call
		var answers []answer
		w.behind = func(c call, a answer) { calls, answers = append(calls, c), append(answers, a) }
		for _, c := range starts(&n, run) {
			w.wantSame(c)
		}
		for range 100 {
			w.wantSame(w.anyCall(&n))
		}
		for range 5 {
			w.side = silent(t, calls, answers)
			w.want(w.p.open(), w.p.clock())
		}
		if t.Failed() {
			return
		}
	}
}

// A call that has an error has changed nothing that a later call can tell: without them all answers are the same.
func TestErrorsChangeNothing(t *testing.T) {
	n, refused := numbers(73), 0
	for run := range 400 {
		w := newWalker(t, map[string]int{})
		w.promise = "R6"
		var calls []call
		var answers []answer
		w.behind = func(c call, a answer) {
			if a.e != api.OK {
				refused++
				return
			}
			calls, answers = append(calls, c), append(answers, a)
		}
		for _, c := range starts(&n, run) {
			w.wantSame(c)
		}
		for range 60 {
			w.wantSame(w.anyCall(&n))
		}
		w.side = silent(t, calls, answers)
		w.want(w.p.open(), w.p.clock())
		for _, tx := range few() {
			w.wantSame(commit(tx, latest, 0))
		}
		if t.Failed() {
			return
		}
	}
	if refused < 6000 {
		t.Errorf("R6: in long runs but %d calls had an error", refused)
	}
}

// Behind each call that is refused all is as it was: what may be asked, and what is answered by each call that may come next.
func TestBehindARefusedCallAllIsAsItWas(t *testing.T) {
	ahead := []call{prepare(1, 5, 0), prepare(2, 70000, 0), prepare(3, 0, 9), commit(2, 80000, 3)}
	tried := 0
	for _, c := range strangeCalls() {
		p, other := part.New(), part.New()
		for _, first := range ahead {
			first.of(p)
			first.of(other)
		}
		if c.of(p).e == api.OK {
			continue
		}
		tried++
		for _, next := range []call{stable(0), commit(1, 5, 0), commit(1, 6, 0), commit(2, latest, 0), prepare(2, 0, 0), stable(9), commit(3, ticks(9), 0), commit(c.tx, latest-9, 0), stable(0), prepare(c.tx, 0, 0)} {
			if got, want := next.of(p), next.of(other); got != want || p.Open() != other.Open() || p.Clock() != other.Clock() {
				t.Errorf("R6: behind %s, that is refused, %s answers %d, %d; not %d, %d", c, next, got.stamp, int(got.e), want.stamp, int(want.e))
			}
		}
	}
	if tried < 2000 {
		t.Errorf("R6: but %d calls were refused", tried)
	}
}

// heap is how many bytes are in use.
func heap() uint64 {
	runtime.GC()
	var m runtime.MemStats
	runtime.ReadMemStats(&m)
	return m.HeapAlloc
}

// Of what was committed nothing is kept.
func TestOfWhatIsOverNothingIsKept(t *testing.T) {
	p, open := part.New(), []uint64{}
	before := heap()
	for tx := range uint64(500_000) {
		p.Prepare(tx, 0, int(tx)/1000)
		if open = append(open, tx); len(open) < 5 {
			continue
		}
		i := int(tx % 5)
		if e := p.Commit(open[i], latest/2+tx, 0); e != api.OK || p.Open() != 4 {
			t.Fatalf("P16.1: Commit(%d) has error %d, and Open answers %d behind it, not 4", open[i], int(e), p.Open())
		}
		open = slices.Delete(open, i, i+1)
		p.Stable(0)
	}
	if after := heap(); after > before+1<<19 {
		t.Errorf("rule 8 of the language: with all but 4 committed a side keeps %d bytes", after-before)
	}
	runtime.KeepAlive(p)
}
