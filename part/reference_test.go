package part_test

import (
	"fmt"
	"testing"

	"confluence/api"
)

// plain is a second side: it keeps all that was ever done, lets nothing go, and works all out when it is asked.
type plain struct {
	// raised are all stamps that the clock was raised to, one behind the other.
	raised []uint64
	// proposals are all that were ever made, one behind the other.
	proposals []proposal
}

type proposal struct {
	tx, stamp uint64
	over      bool
}

func (p *plain) clock() uint64 {
	clock := uint64(0)
	for _, stamp := range p.raised {
		if stamp > clock {
			clock = stamp
		}
	}
	return clock
}

// find is the place of what was proposed to a transaction and is prepared still; -1: it isn't prepared.
func (p *plain) find(tx uint64) int {
	for i, is := range p.proposals {
		if is.tx == tx && !is.over {
			return i
		}
	}
	return -1
}

func (p *plain) open() int {
	open := 0
	for _, is := range p.proposals {
		if !is.over {
			open++
		}
	}
	return open
}

// isReading tells whether a clock may show a number.
func isReading(ms int) bool { return ms >= 0 && ms < 1<<48 }

func (p *plain) prepare(c call) answer {
	if p.find(c.tx) >= 0 {
		return answer{e: api.ErrThere}
	}
	if !isReading(c.ms) {
		return answer{e: api.ErrArg}
	}
	last := p.clock()
	if c.stamp > last {
		last = c.stamp
	}
	next := last + 1
	if uint64(c.ms)<<16 > last {
		next = uint64(c.ms) << 16
	} else if next == 0 {
		return answer{e: api.ErrClock}
	}
	p.raised = append(p.raised, next)
	p.proposals = append(p.proposals, proposal{c.tx, next, false})
	return answer{stamp: next}
}

func (p *plain) commit(c call) answer {
	i := p.find(c.tx)
	if !isReading(c.ms) {
		return answer{e: api.ErrArg}
	}
	if i < 0 {
		return answer{e: api.ErrNone}
	}
	if c.stamp < p.proposals[i].stamp {
		return answer{e: api.ErrOld}
	}
	p.proposals[i].over = true
	p.raised = append(p.raised, c.stamp, uint64(c.ms)<<16)
	return answer{}
}

func (p *plain) stable(ms int) answer {
	if !isReading(ms) {
		return answer{e: api.ErrArg}
	}
	p.raised = append(p.raised, uint64(ms)<<16)
	least := p.clock()
	for _, is := range p.proposals {
		if !is.over && is.stamp-1 < least {
			least = is.stamp - 1
		}
	}
	return answer{stamp: least}
}

func (p *plain) of(c call) answer {
	switch c.name {
	case "Prepare":
		return p.prepare(c)
	case "Commit":
		return p.commit(c)
	case "Stable":
		return p.stable(c.ms)
	}
	p.raised = append(p.raised, c.stamp)
	return answer{}
}

// walker goes with a side and a plain one from call to call.
type walker struct {
	*scene
	p     plain
	count map[string]int
	// behind is told each call and what the side answers.
	behind func(c call, a answer)
}

func newWalker(t *testing.T, count map[string]int) *walker {
	return &walker{scene: begun(t), count: count, behind: func(call, answer) {}}
}

// few are the transactions that long runs are of.
func few() []uint64 { return []uint64{0, 1, 2, 5, 1 << 33, latest - 1, latest} }

// reading is mostly one at the clock or a little below or above it; at the ends of the clock it is none now and then.
func (w *walker) reading(n *numbers) int {
	near := int(w.p.clock() >> 16)
	switch n.below(24) {
	case 0:
		return one(n, noReadings())
	case 1, 2, 3, 4, 5:
		return near + n.below(5) - 2
	case 6, 7, 8, 9, 10:
		return 0
	}
	return near - n.below(2)*n.below(3)
}

// stamp is mostly one near the clock.
func (w *walker) stamp(n *numbers) uint64 {
	clock := w.p.clock()
	switch n.below(24) {
	case 0:
		return 0
	case 1:
		return n.next() >> (16 + n.below(48))
	case 2:
		return clock + min(latest-clock, uint64(n.below(1<<18)))
	case 3, 4, 5, 6, 7, 8, 9, 10:
		return clock + min(latest-clock, uint64(n.below(4)))
	}
	return clock - min(clock, uint64(n.below(4)))
}

// oneOf is mostly a transaction that is prepared.
func (w *walker) oneOf(n *numbers) uint64 {
	for range n.below(4) {
		if tx := one(n, few()); w.p.find(tx) >= 0 {
			return tx
		}
	}
	return one(n, few())
}

// commitOf is mostly at what was proposed to its transaction, or a little below or above it.
func (w *walker) commitOf(n *numbers, tx uint64) call {
	i := w.p.find(tx)
	if i < 0 || n.below(4) == 0 {
		return commit(tx, w.stamp(n), w.reading(n))
	}
	proposed := w.p.proposals[i].stamp
	switch n.below(6) {
	case 0:
		return commit(tx, proposed-1-min(proposed-1, uint64(n.below(3))), w.reading(n))
	case 1:
		return commit(tx, proposed+min(latest-proposed, uint64(n.below(4))), w.reading(n))
	}
	return commit(tx, proposed, w.reading(n))
}

func (w *walker) anyCall(n *numbers) call {
	switch n.below(20) {
	case 0, 1:
		return see(w.stamp(n))
	case 2, 3, 4:
		return stable(w.reading(n))
	case 5, 6, 7, 8, 9, 10, 11:
		return w.commitOf(n, w.oneOf(n))
	case 12:
		return prepare(one(n, few()), latest, w.reading(n))
	}
	return prepare(one(n, few()), w.stamp(n), w.reading(n))
}

// wantSame makes a call of both sides, and wants that they answer the same, and tell the same behind it.
func (w *walker) wantSame(c call) {
	w.Helper()
	want := w.p.of(c)
	w.makes(c, want, w.p.clock())
	w.want(w.p.open(), w.p.clock())
	w.count[fmt.Sprint(c.name, " ", int(want.e))]++
	w.behind(c, want)
}

// starts are the ways in which long runs begin: with a new side, and with sides whose clocks are near their end, or there, while several are prepared.
func starts(n *numbers, run int) []call {
	if run%3 == 0 {
		return nil
	}
	l := []call{prepare(1, 0, 0), prepare(latest, 70000, 0), prepare(5, 0, api.MostClock)}
	if run%3 == 1 {
		return append(l[:n.below(4)], see(latest-uint64(n.below(1<<24))))
	}
	return append(l[:n.below(4)], see(latest-uint64(n.below(40))))
}

// longRuns makes any calls of sides, held against the second one; the function makes each one ready.
func longRuns(t *testing.T, seed numbers, runs, calls int, ready func(w *walker)) map[string]int {
	t.Helper()
	count := map[string]int{}
	for run := range runs {
		w := newWalker(t, count)
		ready(w)
		for _, c := range starts(&seed, run) {
			w.wantSame(c)
		}
		for range calls {
			w.wantSame(w.anyCall(&seed))
			if t.Failed() {
				return count
			}
		}
	}
	return count
}

func TestLongRunsOfCalls(t *testing.T) {
	count := longRuns(t, 41, 600, 150, func(*walker) {})
	for _, what := range []string{"Prepare 0", "Prepare 1", "Prepare 8", "Prepare 10", "Commit 0", "Commit 1", "Commit 7", "Commit 11", "See 0", "Stable 0", "Stable 1"} {
		if count[what] < 500 {
			t.Errorf("P16.1: in long runs few calls were as %s: %v", what, count)
		}
	}
}

// One side that goes on for long, asked between its calls.
func TestOneVeryLongRun(t *testing.T) {
	n, w := numbers(42), newWalker(t, map[string]int{})
	for range 4000 {
		w.wantSame(w.anyCall(&n))
		w.wantSame(stable(0))
		if t.Failed() {
			return
		}
	}
	if w.count["Commit 0"] < 400 {
		t.Errorf("P16.1: in a very long run there are but %d commits", w.count["Commit 0"])
	}
}

// fewCalls are calls of few transactions, stamps and readings, of which all short rows are tried.
func fewCalls() []call {
	return []call{
		prepare(1, 0, 0), prepare(1, 2, 0), prepare(2, 0, 0), prepare(2, 3, 1), prepare(2, latest, 0), prepare(1, 0, -1),
		commit(1, 1, 0), commit(1, 3, 0), commit(1, 4, -1), commit(1, 65536, 2), commit(2, 4, 0), commit(2, latest, 1),
		see(3), see(latest - 1), stable(0), stable(1), stable(-1),
	}
}

// wantRow wants that both sides answer the same to a row of calls.
func wantRow(t *testing.T, calls ...call) {
	t.Helper()
	w := newWalker(t, map[string]int{})
	for _, c := range calls {
		w.wantSame(c)
	}
	w.wantSame(stable(0))
}

// All rows of four of them, behind several beginnings.
func TestAllShortRowsOfCalls(t *testing.T) {
	l := fewCalls()
	for i := range len(l) * len(l) * len(l) * len(l) {
		row := []call{l[i%len(l)], l[i/len(l)%len(l)], l[i/len(l)/len(l)%len(l)], l[i/len(l)/len(l)/len(l)]}
		wantRow(t, row...)
		if i%5 == 0 {
			wantRow(t, append([]call{prepare(2, 0, 0), prepare(1, 0, 0)}, row...)...)
			wantRow(t, append([]call{prepare(1, 0, 0), commit(1, 2, 0), see(latest)}, row...)...)
		}
		if t.Failed() {
			return
		}
	}
}
