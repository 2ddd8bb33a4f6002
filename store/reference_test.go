package store_test

import (
	"fmt"
	"slices"
	"testing"

	"confluence/api"
	"confluence/store"
)

// plain is a store word by word: one list of versions in the order in which they came.
type plain struct {
	l     []api.Ver
	floor uint64
}

func plainCheck(v api.Ver) api.Errno {
	if len(v.Key) > 16 || len(v.Val) > 64 {
		return api.ErrLong
	}
	right := len(v.Key) > 0 && (!v.Gone || v.Val == "") && v.DC >= 0 && v.DC <= 3 && v.Tx >= 0 && v.Tx <= 1073741824
	if !right {
		return api.ErrArg
	}
	return api.OK
}

func (p *plain) seen(key string, snap uint64) (api.Ver, bool) {
	var last api.Ver
	there := false
	for _, v := range p.l {
		if v.Key == key && v.TS <= snap && (!there || ahead(last, v)) {
			last, there = v, true
		}
	}
	return last, there
}

func (p *plain) put(v api.Ver) api.Errno {
	if e := plainCheck(v); e != api.OK {
		return e
	}
	for _, x := range p.l {
		if x.Key != v.Key || !sameMark(x, v) {
			continue
		}
		if x.Val == v.Val && x.Gone == v.Gone {
			return api.ErrThere
		}
		return api.ErrForm
	}
	if last, there := p.seen(v.Key, p.floor); there && ahead(v, last) {
		return api.ErrOld
	}
	p.l = append(p.l, v)
	p.trimAll()
	return api.OK
}

func (p *plain) load(l []api.Ver) int {
	taken := 0
	for _, v := range l {
		if p.put(v) == api.OK {
			taken++
		}
	}
	return taken
}

func (p *plain) get(key string, snap uint64) seen {
	if snap < p.floor {
		return seen{e: api.ErrOld}
	}
	v, there := p.seen(key, snap)
	return seen{v, there, api.OK}
}

func (p *plain) all(lo, hi string) []api.Ver { return within(byKeys(p.l), lo, hi) }

func (p *plain) drop(lo, hi string) int {
	gone := p.all(lo, hi)
	p.l = without(p.l, gone)
	return len(gone)
}

func (p *plain) trimAll() int {
	var left []api.Ver
	for _, v := range p.l {
		if last, there := p.seen(v.Key, p.floor); !there || !ahead(v, last) {
			left = append(left, v)
		}
	}
	went := len(p.l) - len(left)
	p.l = left
	return went
}

func (p *plain) trim(floor uint64) int {
	if floor > p.floor {
		p.floor = floor
	}
	return p.trimAll()
}

// walker goes with a store and a plain one from call to call.
type walker struct {
	s     *store.Store
	p     plain
	keys  []string
	times uint64
	count map[string]int
}

func (w *walker) key(r *numbers) string { return w.keys[r.below(len(w.keys))] }

// version is now and then one that is there, like one that is there, or not right.
func (w *walker) version(r *numbers) api.Ver {
	if len(w.p.l) > 0 && r.below(4) == 0 {
		v := w.p.l[r.below(len(w.p.l))]
		switch r.below(3) {
		case 0:
			return v
		case 1:
			alike := likenesses(v)
			return alike[r.below(len(alike))]
		}
		return marked(v.Key, v.TS, r.below(4), r.below(4))
	}
	if r.below(15) == 0 {
		all := allFlaws()
		return all[r.below(len(all))].v
	}
	v := marked(w.key(r), r.next()%w.times, r.below(4), r.below(4))
	if r.below(5) == 0 {
		return gone(v)
	}
	return v
}

func (w *walker) put(t *testing.T, r *numbers) {
	v := w.version(r)
	want := w.p.put(v)
	wantPut(t, "P10.1", w.s, v, want)
	w.count[fmt.Sprint("Put ", int(want))]++
}

func (w *walker) load(t *testing.T, r *numbers) {
	var l []api.Ver
	for range r.below(10) {
		l = append(l, w.version(r))
	}
	wantLoad(t, "P10.1", w.s, l, w.p.load(l))
}

func (w *walker) trim(t *testing.T, r *numbers) {
	floor := r.next() % w.times
	if r.below(4) > 0 {
		// Near the floor that stands, so that it does not rise to the end too soon.
		floor = w.p.floor + floor/64
	}
	if r.below(3) == 0 {
		floor = w.p.floor / 2
	}
	went := w.p.trim(floor)
	wantCount(t, "P10.1", fmt.Sprintf("Trim(%d)", floor), w.s.Trim(floor), went)
	w.count[fmt.Sprint("Trim ", went > 0)]++
}

func (w *walker) drop(t *testing.T, r *numbers) {
	lo, hi := w.key(r), w.key(r)
	if r.below(5) == 0 {
		hi = ""
	}
	wantList(t, "P10.1", fmt.Sprintf("All(%q, %q)", lo, hi), allIn(w.s, lo, hi), w.p.all(lo, hi))
	if r.below(3) > 0 {
		return
	}
	went := w.p.drop(lo, hi)
	wantCount(t, "P10.1", fmt.Sprintf("Drop(%q, %q)", lo, hi), w.s.Drop(lo, hi), went)
	w.count[fmt.Sprint("Drop ", went > 0)]++
}

func (w *walker) get(t *testing.T, r *numbers) {
	snap := w.p.floor + r.next()%w.times
	switch r.below(6) {
	case 0:
		snap = r.next() % w.times
	case 1:
		snap = w.p.floor
	case 2:
		snap = w.p.floor - 1
	}
	key := w.key(r)
	want := w.p.get(key, snap)
	wantGet(t, "P10.1", w.s, key, snap, want)
	w.count[fmt.Sprint("Get ", want.there, " ", int(want.e))]++
}

func (w *walker) walk(t *testing.T, r *numbers, steps int) {
	t.Helper()
	for step := range steps {
		switch r.below(14) {
		case 0:
			w.trim(t, r)
		case 1:
			w.drop(t, r)
		case 2:
			w.load(t, r)
		default:
			w.put(t, r)
		}
		for range 3 {
			w.get(t, r)
		}
		wantHolds(t, "P10.1", "in a long run", w.s, w.p.floor, byKeys(w.p.l))
		w.count["longest"] = max(w.count["longest"], len(w.p.l))
		if t.Failed() {
			t.Fatalf("P10.1: that was call %d", step)
		}
	}
}

func TestLongRunsOfCalls(t *testing.T) {
	r, count := numbers(1), map[string]int{}
	for _, keys := range [][]string{{"k"}, {"a", "aa", "b"}, strangeKeys()} {
		for _, times := range []uint64{3, 12, 100, 100000, 1 << 40, latest} {
			for range 4 {
				w := walker{s: store.New(), keys: slices.Concat(keys, []string{"none"}), times: times, count: count}
				w.walk(t, &r, 250)
			}
		}
	}
	for _, what := range []string{"Put 0", "Put 1", "Put 3", "Put 6", "Put 8", "Put 11", "Trim true", "Trim false", "Drop true", "Drop false", "Get true 0", "Get false 0", "Get false 11"} {
		if count[what] < 50 {
			t.Errorf("P10.1: in long runs few calls were as %s: %v", what, count)
		}
	}
	if count["longest"] < 60 {
		t.Errorf("P10.1: in long runs no store was great: %v", count)
	}
}

// Short runs from the beginning on, over few keys and few times.
func TestShortRunsOfCalls(t *testing.T) {
	r, count := numbers(2), map[string]int{}
	for range 1500 {
		w := walker{s: store.New(), keys: []string{"a", "aa", "b"}, times: 8, count: count}
		w.walk(t, &r, 25)
	}
}
