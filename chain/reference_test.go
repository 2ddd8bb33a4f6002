package chain_test

import (
	"fmt"
	"slices"
	"testing"

	"confluence/api"
	"confluence/chain"
)

// ahead tells whether a's mark is ahead of b's.
func ahead(a, b api.Ver) bool {
	switch {
	case a.TS != b.TS:
		return a.TS < b.TS
	case a.DC != b.DC:
		return a.DC < b.DC
	}
	return a.Tx < b.Tx
}

// plainPut is Put word by word.
func plainPut(l []api.Ver, v api.Ver) ([]api.Ver, api.Errno) {
	for _, x := range l {
		if x.TS != v.TS || x.DC != v.DC || x.Tx != v.Tx {
			continue
		}
		if x.Key == v.Key && x.Val == v.Val && x.Gone == v.Gone {
			return nil, api.ErrThere
		}
		return nil, api.ErrForm
	}
	var put []api.Ver
	for i, x := range l {
		if ahead(v, x) {
			return append(append(put, v), l[i:]...), api.OK
		}
		put = append(put, x)
	}
	return append(put, v), api.OK
}

// plainAt is the first of the versions up to snap that none of them is behind.
func plainAt(l []api.Ver, snap uint64) seen {
	var up []api.Ver
	for _, x := range l {
		if x.TS <= snap {
			up = append(up, x)
		}
	}
	slices.SortStableFunc(up, func(a, b api.Ver) int {
		switch {
		case ahead(b, a):
			return -1
		case ahead(a, b):
			return 1
		}
		return 0
	})
	if len(up) == 0 {
		return seen{}
	}
	return seen{up[0], true}
}

func plainTrim(l []api.Ver, floor uint64) ([]api.Ver, int) {
	s := plainAt(l, floor)
	if !s.there {
		return l, 0
	}
	var kept []api.Ver
	went := 0
	for _, x := range l {
		if ahead(x, s.v) {
			went++
		} else {
			kept = append(kept, x)
		}
	}
	return kept, went
}

func plainJoin(a, b []api.Ver) ([]api.Ver, api.Errno) {
	joined := own(a)
	for _, v := range b {
		put, e := plainPut(joined, v)
		if e == api.ErrForm {
			return nil, api.ErrForm
		}
		if e == api.OK {
			joined = put
		}
	}
	return joined, api.OK
}

func wantAlikePut(t *testing.T, l []api.Ver, v api.Ver) ([]api.Ver, api.Errno) {
	t.Helper()
	want, wantE := plainPut(l, v)
	got, e := chain.Put(l, v)
	wantAnswered(t, "P9.1", fmt.Sprintf("Put(%s, %s)", told(l), quoted(v)), got, e, want, wantE)
	return got, e
}

func wantAlikeAt(t *testing.T, l []api.Ver, snap uint64) {
	t.Helper()
	if got, want := seenAt(l, snap), plainAt(l, snap); got != want {
		t.Errorf("P9.1: At(%s, %d) is %v, not %v", told(l), snap, got, want)
	}
}

func wantAlikeTrim(t *testing.T, l []api.Ver, floor uint64) ([]api.Ver, int) {
	t.Helper()
	want, wantWent := plainTrim(l, floor)
	got, went := chain.Trim(l, floor)
	call := fmt.Sprintf("Trim(%s, %d)", told(l), floor)
	wantList(t, "P9.1", call, got, api.OK, want)
	if went != wantWent {
		t.Errorf("P9.1: %s tells that %d went, not %d", call, went, wantWent)
	}
	return got, went
}

func wantAlikeJoin(t *testing.T, a, b []api.Ver) ([]api.Ver, api.Errno) {
	t.Helper()
	want, wantE := plainJoin(a, b)
	got, e := chain.Join(a, b)
	wantAnswered(t, "P9.1", fmt.Sprintf("Join(%s, %s)", told(a), told(b)), got, e, want, wantE)
	return got, e
}

// Each list with all that it is to be asked.
func TestAllListsAlike(t *testing.T) {
	for _, l := range allLists() {
		for _, v := range newcomers(l) {
			wantAlikePut(t, l, v)
		}
		for _, time := range moments(l) {
			wantAlikeAt(t, l, time)
			wantAlikeTrim(t, l, time)
		}
		for _, other := range allLists() {
			wantAlikeJoin(t, l, other)
		}
		if t.Failed() {
			return
		}
	}
}

// walker goes with one list from call to call.
type walker struct {
	l     []api.Ver
	times uint64
	seen  map[string]int
}

// version has a mark of the walker's times; now and then it is one of the list's own, or has the mark of one.
func (w *walker) version(r *numbers) api.Ver {
	if len(w.l) > 0 && r.below(4) == 0 {
		v := w.l[r.below(len(w.l))]
		if r.below(2) == 0 {
			return v
		}
		alike := likenesses(v)
		return alike[r.below(len(alike))]
	}
	v := ver(r.next()%w.times, r.below(3), r.below(4))
	if r.below(5) == 0 {
		return gone(v)
	}
	return v
}

func (w *walker) put(t *testing.T, r *numbers) {
	next, e := wantAlikePut(t, w.l, w.version(r))
	w.seen[fmt.Sprintf("Put %d", e)]++
	if e == api.OK {
		w.l = next
	}
}

func (w *walker) trim(t *testing.T, r *numbers) {
	floor := r.next() % w.times
	if r.below(3) > 0 {
		floor /= 8
	}
	next, went := wantAlikeTrim(t, w.l, floor)
	w.seen[fmt.Sprint("Trim ", went > 0)]++
	w.l = next
}

func (w *walker) join(t *testing.T, r *numbers) {
	var other []api.Ver
	for range r.below(8) {
		v := w.version(r)
		// A list that can't be joined is wanted now and then alone.
		if _, e := plainPut(w.l, v); e != api.ErrForm || r.below(10) == 0 {
			other = append(other, v)
		}
	}
	next, e := wantAlikeJoin(t, w.l, other)
	wantAlikeJoin(t, other, w.l)
	w.seen[fmt.Sprintf("Join %d", e)]++
	if e == api.OK {
		w.l = next
	}
}

func (w *walker) walk(t *testing.T, r *numbers, steps int) {
	for step := range steps {
		switch r.below(12) {
		case 0:
			w.trim(t, r)
		case 1:
			w.join(t, r)
		default:
			w.put(t, r)
		}
		for range 3 {
			wantAlikeAt(t, w.l, r.next()%(w.times+2))
		}
		w.seen["longest"] = max(w.seen["longest"], len(w.l))
		if t.Failed() {
			t.Fatalf("P9.1: that was call %d", step)
		}
	}
}

func TestLongRunsOfCalls(t *testing.T) {
	r, all := numbers(1), map[string]int{}
	for _, times := range []uint64{3, 10, 100, 1000, 1 << 40, latest} {
		w := walker{times: times, seen: all}
		w.walk(t, &r, 3000)
		wantChain(t, "P9.2", "what was made of none by Put, Trim and Join", w.l)
	}
	for range 200 {
		w := walker{anyList(&r, 1+r.below(30)), 6, all}
		w.walk(t, &r, 50)
	}
	for _, what := range []string{"Put 0", "Put 3", "Put 8", "Trim true", "Trim false", "Join 0", "Join 3"} {
		if all[what] < 50 {
			t.Errorf("P9.1: in long runs few calls were as %s: %v", what, all)
		}
	}
	if all["longest"] < 40 {
		t.Errorf("P9.1: in long runs no list was long: %v", all)
	}
}

// Lists of few marks, so that many of them stand more than once and in any order.
func TestAnyLists(t *testing.T) {
	r := numbers(3)
	for range 20000 {
		l := anyList(&r, r.below(9))
		wantAlikePut(t, l, anyVersion(&r))
		wantAlikeAt(t, l, uint64(r.below(7)))
		wantAlikeTrim(t, l, uint64(r.below(7)))
		wantAlikeJoin(t, l, anyList(&r, r.below(4)))
		if t.Failed() {
			return
		}
	}
}
