package inbox_test

import (
	"fmt"
	"testing"

	"confluence/api"
)

// plain is a second box: it lets nothing go, and works all out when it is asked.
type plain struct {
	first  int
	came   []entry
	hearts []heart
}

type entry struct {
	r             api.Rec
	out, finished bool
}

type heart struct {
	upto  uint64
	count int
}

func (p *plain) applied() int {
	for i, e := range p.came {
		if !e.finished {
			return p.first + i
		}
	}
	return p.first + len(p.came)
}

func (p *plain) got() uint64 {
	got, applied := uint64(0), p.applied()
	for _, h := range p.hearts {
		if h.count <= applied && h.upto > got {
			got = h.upto
		}
	}
	return got
}

func (p *plain) put(at int, r api.Rec) api.Errno {
	if at < p.first {
		return api.ErrOld
	}
	for i := range p.came {
		if p.first+i == at {
			return api.ErrOld
		}
	}
	if at > p.first+len(p.came) {
		return api.ErrNone
	}
	kept, applied := 0, p.applied()
	for i := range p.came {
		if p.first+i >= applied {
			kept++
		}
	}
	if kept >= api.MostQueue {
		return api.ErrFull
	}
	p.came = append(p.came, entry{r: r})
	return api.OK
}

// waits is the number, among those that came, of the first one that wasn't handed out; as many as came: there is none.
func (p *plain) waits() int {
	for i, e := range p.came {
		if !e.out {
			return i
		}
	}
	return len(p.came)
}

func (p *plain) finish(at int) api.Errno {
	for i, e := range p.came {
		if p.first+i == at && e.out && !e.finished {
			p.came[i].finished = true
			return api.OK
		}
	}
	return api.ErrNone
}

// walker goes with a box and a plain one from call to call.
type walker struct {
	*scene
	p     plain
	held  bool
	count map[string]int
}

// newWalker is one of boxes that begin at a place; held: their commits are mostly not applied, so that they grow.
func newWalker(t *testing.T, at int, held bool, count map[string]int) *walker {
	return &walker{scene: begun(t, at), p: plain{first: max(at, 0)}, held: held, count: count}
}

// place is mostly one near this one.
func (w *walker) place(n *numbers, near int) int {
	switch n.below(12) {
	case 0:
		return ends()[n.below(len(ends()))]
	case 1:
		return w.p.first + n.below(len(w.p.came)+6) - 3
	}
	return near + n.below(6) - 2
}

// commit is one of a few sizes, with any mark.
func commit(n *numbers) api.Rec {
	if n.below(30) == 0 {
		return writing(sized(0, moments()[n.below(len(moments()))], ends()[n.below(len(ends()))], -1), strange()[n.below(len(strange())):]...)
	}
	return sized(n.below(4), n.next(), n.below(api.MostDC), n.below(100))
}

func (w *walker) put(n *numbers) {
	w.Helper()
	at, r := w.p.first+len(w.p.came), commit(n)
	if n.below(3) == 0 {
		at = w.place(n, at)
	}
	e := w.p.put(at, r)
	w.scene.put(e, at, r)
	w.count[fmt.Sprint("Put ", int(e))]++
}

func (w *walker) next() {
	w.Helper()
	i := w.p.waits()
	if i == len(w.p.came) {
		w.none()
		w.count["Next of none"]++
		return
	}
	w.scene.next(w.p.first+i, w.p.came[i].r)
	w.p.came[i].out = true
	w.count["Next"]++
}

func (w *walker) finish(n *numbers) {
	w.Helper()
	at := w.place(n, w.p.applied()+1)
	if w.held && at == w.p.applied() {
		at++
	}
	was := w.p.applied()
	e := w.p.finish(at)
	w.scene.finish(e, at)
	w.count[fmt.Sprint("Done ", int(e))]++
	w.count[fmt.Sprint("Applied goes on by ", min(w.p.applied()-was, 3))]++
}

func (w *walker) heart(n *numbers) {
	w.Helper()
	// Mostly a little above the last ones, as clocks go on.
	h := heart{upto: uint64(10*len(w.p.hearts) + n.below(40)), count: w.p.applied() + n.below(8) - 2}
	switch n.below(40) {
	case 0:
		h.upto = moments()[n.below(len(moments())-4)]
	case 1, 2, 3:
		h.count = w.place(n, w.p.applied())
	}
	w.p.hearts = append(w.p.hearts, h)
	w.scene.heart(h.upto, h.count)
}

// wantSame holds all that both boxes tell against each other.
func (w *walker) wantSame() {
	w.Helper()
	w.want(w.p.applied(), w.p.got())
	if i := w.p.waits(); i < len(w.p.came) {
		w.peek(w.p.came[i].r)
	} else if _, there := w.box.Peek(); there {
		w.wrong("Peek answers one")
	}
}

// step makes one call of both boxes.
func (w *walker) step(n *numbers) {
	w.Helper()
	was := w.p.got()
	switch n.below(10) {
	case 0, 1, 2:
		w.put(n)
	case 3, 4:
		w.next()
	case 5, 6, 7:
		w.finish(n)
	default:
		w.heart(n)
	}
	w.wantSame()
	if w.p.got() > was {
		w.count["Got rises"]++
	}
	w.count["most"] = max(w.count["most"], len(w.p.came)-(w.p.applied()-w.p.first))
}

// end hands all out that came, and has all of it applied, from the last one to the first.
func (w *walker) end() {
	w.Helper()
	for w.p.waits() < len(w.p.came) {
		w.next()
	}
	for i := len(w.p.came) - 1; i >= 0; i-- {
		at := w.p.first + i
		w.scene.finish(w.p.finish(at), at)
	}
	w.wantSame()
	w.none()
}

// longRuns makes any calls of new boxes, held against the second box; the function is told of each box ahead of each call and behind it.
func longRuns(t *testing.T, seed numbers, runs, calls int, ahead, behind func(w *walker)) map[string]int {
	t.Helper()
	count := map[string]int{}
	for run := range runs {
		w := newWalker(t, beginnings()[run%len(beginnings())]-run%3, run%5 == 0, count)
		for range calls {
			ahead(w)
			w.step(&seed)
			behind(w)
			if t.Failed() {
				return count
			}
		}
		w.end()
	}
	return count
}

func TestLongRunsOfCalls(t *testing.T) {
	count := longRuns(t, 51, 600, 250, func(*walker) {}, func(*walker) {})
	for _, what := range []string{"Put 0", "Put 7", "Put 11", "Next", "Next of none", "Done 0", "Done 7", "Got rises", "Applied goes on by 0", "Applied goes on by 1", "Applied goes on by 2", "Applied goes on by 3"} {
		if count[what] < 700 {
			t.Errorf("P14.1: in long runs few calls were as %s: %v", what, count)
		}
	}
	if count["most"] < 40 {
		t.Errorf("P14.1: in long runs never were many not applied: %v", count)
	}
}

// One box that goes on for long.
func TestOneVeryLongRun(t *testing.T) {
	n, w := numbers(52), newWalker(t, 3, false, map[string]int{})
	for range 3000 {
		w.step(&n)
		if t.Failed() {
			return
		}
	}
	if w.p.applied() < 250 {
		t.Errorf("P14.1: in a very long run but %d were applied", w.p.applied())
	}
	w.end()
}

// Any calls of a box that is nearly full at first.
func TestLongRunsOfFullBoxes(t *testing.T) {
	n, count := numbers(53), map[string]int{}
	for _, first := range []int{0, 5} {
		w := newWalker(t, first, false, count)
		for i := range api.MostQueue - 2 {
			w.scene.put(w.p.put(first+i, of(i)), first+i, of(i))
		}
		for range 250 {
			w.step(&n)
			if t.Failed() {
				return
			}
		}
		w.wantSame()
	}
	for _, what := range []string{"Put 0", "Put 9", "Put 11", "Next", "Done 0"} {
		if count[what] < 15 {
			t.Errorf("P14.1: in runs of full boxes few calls were as %s: %v", what, count)
		}
	}
}

// fewCalls are calls of few places and times, of which all short rows are tried.
func fewCalls() []func(w *walker) {
	l := []func(w *walker){func(w *walker) { w.next() }}
	for _, at := range []int{0, 1, 2, 3} {
		l = append(l, func(w *walker) { w.scene.put(w.p.put(at, of(at)), at, of(at)) })
	}
	for _, at := range []int{1, 2} {
		l = append(l, func(w *walker) { w.scene.finish(w.p.finish(at), at) })
	}
	for _, h := range []heart{{20, 1}, {30, 2}, {10, 3}, {40, 3}} {
		l = append(l, func(w *walker) {
			w.p.hearts = append(w.p.hearts, h)
			w.scene.heart(h.upto, h.count)
		})
	}
	return l
}

// All rows of four of them, behind those of a box that has something already and behind none.
func TestAllShortRowsOfCalls(t *testing.T) {
	l := fewCalls()
	for i := range len(l) * len(l) * len(l) * len(l) {
		for _, has := range []bool{false, true} {
			w := newWalker(t, 1, false, map[string]int{})
			for k := 1; k < 3 && has; k++ {
				w.scene.put(w.p.put(k, of(k)), k, of(k))
				w.next()
			}
			for row, rest := 0, i; row < 4; row, rest = row+1, rest/len(l) {
				l[rest%len(l)](w)
				w.wantSame()
			}
			w.end()
			if t.Failed() {
				return
			}
		}
	}
}
