package order_test

import (
	"fmt"
	"slices"
	"testing"

	"confluence/api"
	"confluence/order"
)

// plain is a second log: what waits stands in the order in which it came.
type plain struct {
	stable, waiting []api.Rec
	bound           uint64
}

func (p *plain) decide(r api.Rec) api.Errno {
	if r.TS <= p.bound {
		return api.ErrOld
	}
	for _, own := range p.waiting {
		if own.TS == r.TS && own.DC == r.DC && own.Tx == r.Tx {
			return api.ErrThere
		}
	}
	p.waiting = append(p.waiting, r)
	return api.OK
}

// least is the place of the least one that may be released; -1: there is none.
func (p *plain) least() int {
	least := -1
	for i, r := range p.waiting {
		if r.TS <= p.bound && (least < 0 || ahead(r, p.waiting[least])) {
			least = i
		}
	}
	return least
}

func (p *plain) release(t uint64) int {
	if p.bound < t {
		p.bound = t
	}
	count := 0
	for i := p.least(); i >= 0; i = p.least() {
		p.stable = append(p.stable, p.waiting[i])
		p.waiting = slices.Delete(p.waiting, i, i+1)
		count++
	}
	return count
}

// walker goes with a log and a plain one from call to call.
type walker struct {
	*scene
	p     plain
	span  int
	count map[string]int
}

func newWalker(t *testing.T, span int, count map[string]int) *walker {
	return &walker{scene: made(t), span: span, count: count}
}

// commit is now and then one that waits, or that is stable; with other versions or the same.
func (w *walker) commit(n *numbers) api.Rec {
	known := w.p.waiting
	if n.below(3) == 0 {
		known = w.p.stable
	}
	if len(known) > 0 && n.below(4) == 0 {
		r := known[n.below(len(known))]
		if n.below(2) == 0 {
			r = writing(r, written(n.below(4), n.next(), 5, 6)...)
		}
		return r
	}
	ts := w.p.bound + uint64(n.below(w.span)) - min(w.p.bound, 1)
	switch n.below(60) {
	case 0:
		ts = moments()[n.below(len(moments()))]
	case 1:
		return sized(n.below(4), ts, ends()[n.below(len(ends()))], ends()[n.below(len(ends()))])
	}
	return sized(n.below(4), ts, n.below(3)-1, n.below(4)-1)
}

// time is mostly a little above the bound.
func (w *walker) time(n *numbers) uint64 {
	if n.below(3) == 0 {
		return w.p.bound - min(w.p.bound, uint64(n.below(w.span)))
	}
	return w.p.bound + uint64(n.below(1+w.span/3))
}

// step makes one call of both logs, and holds all that they tell against each other.
func (w *walker) step(n *numbers) {
	w.Helper()
	if n.below(6) == 0 {
		t := w.time(n)
		count := w.p.release(t)
		w.release(t, count)
		w.count[fmt.Sprint("Release ", min(count, 3))]++
	} else {
		r := w.commit(n)
		e := w.p.decide(r)
		w.decide(e, r)
		w.count[fmt.Sprint("Decide ", int(e))]++
	}
	w.want(len(w.p.waiting), w.p.stable...)
	at := n.below(len(w.p.stable)+4) - 2
	first := min(max(at, 0), len(w.p.stable))
	wantTold(w.T, w.promise, fmt.Sprintf("behind %s: From(%d)", w.story(), at), w.log.From(at), first, w.p.stable[first:])
	w.count["most"] = max(w.count["most"], len(w.p.waiting))
}

// longRuns makes any calls of new logs, held against the second log; behind each the function is told what was stable ahead of it. It answers how often what was done.
func longRuns(t *testing.T, seed numbers, runs, calls int, each func(s *scene, was []api.Rec)) map[string]int {
	t.Helper()
	count := map[string]int{}
	for run := range runs {
		w := newWalker(t, []int{2, 4, 12, 60, 1 << 20}[run%5], count)
		for range calls {
			was := slices.Clone(w.p.stable)
			w.step(&seed)
			each(w.scene, was)
			if t.Failed() {
				return count
			}
		}
		w.wantWaiting(w.p.stable, w.p.waiting)
	}
	return count
}

func TestLongRunsOfCalls(t *testing.T) {
	count := longRuns(t, 51, 200, 250, func(*scene, []api.Rec) {})
	for _, what := range []string{"Decide 0", "Decide 8", "Decide 11", "Release 0", "Release 1", "Release 2", "Release 3"} {
		if count[what] < 300 {
			t.Errorf("P13.1: in long runs few calls were as %s: %v", what, count)
		}
	}
	if count["most"] < 60 {
		t.Errorf("P13.1: in long runs never did many wait: %v", count)
	}
}

// One log that goes on for long, and grows.
func TestOneVeryLongRun(t *testing.T) {
	n, w := numbers(52), newWalker(t, 40, map[string]int{})
	for range 3000 {
		w.step(&n)
		if t.Failed() {
			return
		}
	}
	if len(w.p.stable) < 800 {
		t.Errorf("P13.1: in a very long run but %d came to be stable", len(w.p.stable))
	}
	w.wantWaiting(w.p.stable, w.p.waiting)
}

// fewCalls are calls of few marks and times, of which all short rows are tried.
func fewCalls() []func(s *scene, p *plain) {
	var l []func(s *scene, p *plain)
	for _, r := range []api.Rec{rec(0, 0, 1), rec(1, 0, 1), rec(2, 0, 1), rec(2, 0, 2), rec(2, 1, 0), writing(rec(2, 0, 1)), rec(3, -1, 1)} {
		l = append(l, func(s *scene, p *plain) { s.decide(p.decide(r), r) })
	}
	for time := range uint64(4) {
		l = append(l, func(s *scene, p *plain) { s.release(time, p.release(time)) })
	}
	return l
}

// All rows of four of them.
func TestAllShortRowsOfCalls(t *testing.T) {
	l := fewCalls()
	for i := range len(l) * len(l) * len(l) * len(l) {
		s, p := &scene{T: t, log: order.New(), promise: "P13.1"}, &plain{}
		for row, rest := 0, i; row < 4; row, rest = row+1, rest/len(l) {
			l[rest%len(l)](s, p)
			s.want(len(p.waiting), p.stable...)
		}
		s.wantWaiting(p.stable, p.waiting)
		if t.Failed() {
			return
		}
	}
}
