package session_test

import (
	"fmt"
	"sort"
	"testing"

	"confluence/api"
)

// plain is a second session: it keeps all that was ever done, lets nothing go, and works all out when it is asked.
type plain struct {
	begins []uint64
	open   bool
	// written has the writes since the last Begin, one behind the other.
	written []api.Ver
	commits []commit
}

// commit is a mark, and all writes that were made ahead of it, one behind the other.
type commit struct {
	m       api.Mark
	written []api.Ver
}

func (p *plain) snap() uint64 {
	snap := uint64(0)
	for _, stable := range p.begins {
		if stable > snap {
			snap = stable
		}
	}
	return snap
}

func (p *plain) low() uint64 {
	low := p.snap()
	for _, c := range p.commits {
		if c.m.TS > low {
			low = c.m.TS
		}
	}
	return low
}

func (p *plain) begin(stable uint64) api.Errno {
	if p.open {
		return api.ErrTx
	}
	p.open, p.written, p.begins = true, nil, append(p.begins, stable)
	return api.OK
}

// lastOf is the last one of these writes that is of a key.
func lastOf(l []api.Ver, key string) (api.Ver, bool) {
	for i := len(l) - 1; i >= 0; i-- {
		if l[i].Key == key {
			return l[i], true
		}
	}
	return api.Ver{}, false
}

func (p *plain) writes() []api.Ver {
	var l []api.Ver
	for _, v := range p.written {
		if _, there := lastOf(l, v.Key); p.open && !there {
			last, _ := lastOf(p.written, v.Key)
			l = append(l, last)
		}
	}
	sort.Slice(l, func(i, k int) bool { return l[i].Key < l[k].Key })
	return l
}

func (p *plain) write(v api.Ver) api.Errno {
	if !p.open {
		return api.ErrTx
	}
	if len(v.Key) > 16 || len(v.Val) > 64 {
		return api.ErrLong
	}
	if v.Key == "" || v.Gone && v.Val != "" {
		return api.ErrArg
	}
	others := 0
	for _, is := range p.writes() {
		if is.Key != v.Key {
			others++
		}
	}
	if others == 8 {
		return api.ErrFull
	}
	p.written = append(p.written, v)
	return api.OK
}

func (p *plain) look(key string) (api.Ver, int) {
	if !p.open {
		return api.Ver{}, 0
	}
	if v, there := lastOf(p.written, key); there {
		return v, 1
	}
	snap := p.snap()
	for i := len(p.commits) - 1; i >= 0; i-- {
		c := p.commits[i]
		if v, there := lastOf(c.written, key); there && c.m.TS > snap {
			return by(c.m, v), 2
		}
	}
	return api.Ver{}, 0
}

func (p *plain) close() api.Errno {
	if !p.open {
		return api.ErrTx
	}
	p.open = false
	return api.OK
}

func (p *plain) commit(m api.Mark) api.Errno {
	if !p.open {
		return api.ErrTx
	}
	if m.TS <= p.low() {
		return api.ErrOld
	}
	p.open, p.commits = false, append(p.commits, commit{m, p.written})
	return api.OK
}

// walker goes with a session and a plain one from call to call.
type walker struct {
	*scene
	p     plain
	keys  []string
	count map[string]int
	// before is asked ahead of each call, behind is told behind it.
	before, behind func()
}

func newWalker(t *testing.T, keys []string, count map[string]int) *walker {
	return &walker{scene: begun(t), keys: keys, count: count, before: func() {}, behind: func() {}}
}

// time is mostly one near Snap or Low.
func (w *walker) time(n *numbers) uint64 {
	switch n.below(40) {
	case 0:
		return one(n, moments()[:7])
	case 1:
		return n.next() >> 40
	case 2, 3, 4, 5, 6, 7, 8:
		return max(w.p.low(), 3) + uint64(n.below(6)) - 3
	}
	return max(w.p.snap(), 2) + uint64(n.below(5)) - 2
}

// version is mostly one that may be written.
func (w *walker) version(n *numbers) api.Ver {
	v := written(one(n, w.keys), fmt.Sprint("v", n.below(1000)))
	switch n.below(12) {
	case 0:
		v.Val = long(one(n, []int{0, 1, 63, 64, 65, 66, 300}))
	case 1:
		v.Key = long(one(n, []int{0, 15, 16, 17, 18, 300}))
	case 2:
		v.Gone = true
	case 3, 4:
		v.Val, v.Gone = "", true
	}
	return v
}

// mark is mostly one whose time is a little above Low.
func (w *walker) mark(n *numbers) api.Mark {
	ts := w.p.low() + uint64(n.below(5))
	if n.below(8) == 0 {
		ts = w.time(n)
	}
	return api.Mark{TS: ts, DC: one(n, ends()), Tx: n.below(100)}
}

func (w *walker) begin(stable uint64) {
	w.Helper()
	e := w.p.begin(stable)
	if e == api.OK {
		w.scene.begin(stable, w.p.snap())
	} else {
		w.refuseBegin(e, stable)
	}
	w.count[fmt.Sprint("Begin ", int(e))]++
}

func (w *walker) write(v api.Ver) {
	w.Helper()
	e := w.p.write(v)
	w.scene.write(e, v)
	w.count[fmt.Sprint("Write ", int(e))]++
}

func (w *walker) close() {
	w.Helper()
	e := w.p.close()
	w.scene.close(e)
	w.count[fmt.Sprint("Close ", int(e))]++
}

func (w *walker) commit(m api.Mark) {
	w.Helper()
	e := w.p.commit(m)
	w.scene.commit(e, m)
	w.count[fmt.Sprint("Commit ", int(e))]++
}

// wantSame wants that a session tells what the second one does.
func (w *walker) wantSame() {
	w.Helper()
	w.want(w.p.open, w.p.snap(), w.p.low())
	w.writes(w.p.writes()...)
	for _, key := range append([]string{"", long(15), long(16), long(17), "other"}, w.keys...) {
		v, kind := w.p.look(key)
		if kind == 0 {
			w.unknown(key)
		} else {
			w.look(kind, v)
		}
		w.count[fmt.Sprint("Look ", kind)]++
	}
}

// step makes one call of both sessions.
func (w *walker) step(n *numbers) {
	w.Helper()
	w.before()
	switch n.below(16) {
	case 0, 1, 2:
		w.begin(w.time(n))
	case 3:
		w.close()
	case 4, 5:
		w.commit(w.mark(n))
	default:
		w.write(w.version(n))
	}
	w.wantSame()
	w.behind()
}

// longRuns makes any calls of new sessions, held against the second one; the function makes each one ready.
func longRuns(t *testing.T, seed numbers, runs, calls int, ready func(w *walker)) map[string]int {
	t.Helper()
	count := map[string]int{}
	keys := append(strange(), "k1", "k2", "k3", "k4")
	for run := range runs {
		w := newWalker(t, keys[run%5:3+run%5+run%14], count)
		ready(w)
		for range calls {
			w.step(&seed)
			if t.Failed() {
				return count
			}
		}
	}
	return count
}

func TestLongRunsOfCalls(t *testing.T) {
	count := longRuns(t, 51, 500, 150, func(*walker) {})
	for _, what := range []string{"Begin 0", "Begin 17", "Close 0", "Close 17", "Commit 0", "Commit 11", "Commit 17", "Write 0", "Write 1", "Write 6", "Write 9", "Write 17", "Look 0", "Look 1", "Look 2"} {
		if count[what] < 250 {
			t.Errorf("P15.1: in long runs few calls were as %s: %v", what, count)
		}
	}
}

// One session that goes on for long.
func TestOneVeryLongRun(t *testing.T) {
	n, w := numbers(52), newWalker(t, eight(), map[string]int{})
	for range 4000 {
		w.step(&n)
		if t.Failed() {
			return
		}
	}
	if len(w.p.commits) < 150 {
		t.Errorf("P15.1: in a very long run there are but %d commits", len(w.p.commits))
	}
}

// At the end of the times.
func TestLongRunsAtTheEndOfTheTimes(t *testing.T) {
	n, count := numbers(53), map[string]int{}
	for range 100 {
		w := newWalker(t, eight()[:4], count)
		w.begin(latest - 20)
		for range 60 {
			w.step(&n)
			if t.Failed() {
				return
			}
		}
	}
	if count["Commit 0"] < 100 || count["Commit 11"] < 100 {
		t.Errorf("P15.1: in runs at the end of the times few calls were of a kind: %v", count)
	}
}

// fewCalls are calls of few times, keys and marks, of which all short rows are tried.
func fewCalls() []func(w *walker) {
	l := []func(w *walker){func(w *walker) { w.close() }}
	for _, stable := range []uint64{1, 3} {
		l = append(l, func(w *walker) { w.begin(stable) })
	}
	for _, v := range []api.Ver{written("a", "x"), gone("a"), written("b", "y")} {
		l = append(l, func(w *walker) { w.write(v) })
	}
	for _, ts := range []uint64{1, 2, 3, 4} {
		l = append(l, func(w *walker) { w.commit(at(ts)) })
	}
	return l
}

// All rows of four of them, behind those of a session that has committed and written something, and behind none.
func TestAllShortRowsOfCalls(t *testing.T) {
	l := fewCalls()
	for i := range len(l) * len(l) * len(l) * len(l) {
		for _, has := range []bool{false, true} {
			w := newWalker(t, []string{"a", "b"}, map[string]int{})
			if has {
				w.begin(0)
				w.write(written("b", "z"))
				w.commit(at(2))
				w.begin(0)
				w.write(written("a", "w"))
			}
			for row, rest := 0, i; row < 4; row, rest = row+1, rest/len(l) {
				l[rest%len(l)](w)
				w.wantSame()
			}
			if t.Failed() {
				return
			}
		}
	}
}
