package vec_test

import (
	"fmt"
	"slices"
	"testing"

	"confluence/api"
	"confluence/vec"
)

// plain is a second vector: the times of its members alone.
type plain struct {
	epoch int
	times map[int]uint64
}

// plainOf leaves out what those have that are no members.
func plainOf(v vec.Vec) plain {
	p := plain{v.Epoch, map[int]uint64{}}
	for dc := 0; dc < 4; dc++ {
		if v.Has[dc] {
			p.times[dc] = v.T[dc]
		}
	}
	return p
}

func (p plain) vec() vec.Vec {
	v := vec.Vec{Epoch: p.epoch}
	for dc, time := range p.times {
		v.Has[dc], v.T[dc] = true, time
	}
	return v
}

func (p plain) raise(dc int, to uint64) plain {
	raised := plain{p.epoch, map[int]uint64{}}
	for member, time := range p.times {
		if member == dc && to > time {
			time = to
		}
		raised.times[member] = time
	}
	return raised
}

func (p plain) least() (uint64, bool) {
	var l []uint64
	for _, time := range p.times {
		l = append(l, time)
	}
	if len(l) == 0 {
		return 0, false
	}
	slices.Sort(l)
	return l[0], true
}

func (p plain) resize(epoch int, has members) (plain, api.Errno) {
	if p.epoch >= epoch {
		return plain{}, api.ErrOld
	}
	resized := plain{epoch, map[int]uint64{}}
	for dc, is := range has {
		if is {
			resized.times[dc] = p.times[dc]
		}
	}
	return resized, api.OK
}

func (p plain) merge(q plain) plain {
	if p.epoch > q.epoch {
		return q.merge(p)
	}
	merged := plain{q.epoch, map[int]uint64{}}
	for dc, time := range q.times {
		merged.times[dc] = time
	}
	for dc, time := range p.times {
		other, there := merged.times[dc]
		if there && other < time || !there && p.epoch == q.epoch {
			merged.times[dc] = time
		}
	}
	return merged
}

func (p plain) leq(q plain) bool {
	if p.epoch != q.epoch {
		return false
	}
	for dc, time := range p.times {
		if other, there := q.times[dc]; !there || time > other {
			return false
		}
	}
	return true
}

// wantAlike holds all that is told of two vectors against the second ones.
func wantAlike(t *testing.T, a, b vec.Vec) {
	t.Helper()
	p, q := plainOf(a), plainOf(b)
	wantPlain(t, a, p.vec())
	wantLeq(t, a, b, p.leq(q))
	wantLeq(t, b, a, q.leq(p))
	wantMerge(t, "P11.1", a, b, p.merge(q).vec())
	wantMerge(t, "P11.1", b, a, q.merge(p).vec())
	if least, there := p.least(); there {
		wantLeast(t, a, least)
	} else {
		wantNoLeast(t, a)
	}
}

func wantResizedAlike(t *testing.T, v vec.Vec, epoch int, has members) {
	t.Helper()
	want, e := plainOf(v).resize(epoch, has)
	if e != api.OK {
		wantTooOld(t, v, epoch, has)
	} else {
		wantResize(t, v, epoch, has, want.vec())
	}
}

func TestAnyVectors(t *testing.T) {
	r := numbers(1)
	for range 60000 {
		a, b := anyVector(&r), anyVector(&r)
		wantAlike(t, a, b)
		dc, to := r.below(8)-2, anyTime(&r)
		wantRaise(t, a, dc, to, plainOf(a).raise(dc, to).vec())
		wantResizedAlike(t, a, b.Epoch, anyMembers(&r))
		wantNew(t, a.Epoch, a.Has, vec.Vec{Epoch: a.Epoch, Has: a.Has})
		if t.Failed() {
			return
		}
	}
}

func TestAllSmallOnes(t *testing.T) {
	l := smallOnes()
	r := numbers(2)
	for _, a := range l {
		for _, has := range allMembers() {
			for epoch := -1; epoch <= 2; epoch++ {
				wantResizedAlike(t, a, epoch, has)
			}
		}
		for dc := -1; dc <= 4; dc++ {
			for to := range uint64(4) {
				wantRaise(t, a, dc, to, plainOf(a).raise(dc, to).vec())
			}
		}
		for range 60 {
			wantAlike(t, a, l[r.below(len(l))])
		}
		if t.Failed() {
			return
		}
	}
}

// walker goes with some vectors and their second ones from call to call: an answer is what the next call is handed.
type walker struct {
	vecs   [3]vec.Vec
	plains [3]plain
	count  map[string]int
}

func (w *walker) set(i int, v vec.Vec, p plain) { w.vecs[i], w.plains[i] = v, p }

func (w *walker) make(r *numbers, i int) {
	epoch, has := r.below(4)-1, anyMembers(r)
	w.set(i, vec.New(epoch, has), plainOf(vec.Vec{Epoch: epoch, Has: has}))
}

func (w *walker) raise(r *numbers, i int) {
	dc, to := r.below(6)-1, anyTime(r)
	v, p := vec.Raise(w.vecs[i], dc, to), w.plains[i].raise(dc, to)
	w.count[fmt.Sprint("Raise ", p.vec() != w.plains[i].vec())]++
	w.set(i, v, p)
}

func (w *walker) resize(t *testing.T, r *numbers, i int) {
	epoch, has := w.plains[i].epoch+r.below(5)-2, anyMembers(r)
	v, e := vec.Resize(w.vecs[i], epoch, has)
	p, want := w.plains[i].resize(epoch, has)
	if e != want {
		t.Errorf("P11.1: Resize(%s, %d, %s) has error %d, not %d", told(w.vecs[i]), epoch, toldMembers(has), e, want)
	}
	w.count[fmt.Sprint("Resize ", int(want))]++
	if want == api.OK {
		w.set(i, v, p)
	}
}

func (w *walker) merge(r *numbers, i int) {
	k := r.below(3)
	w.count[fmt.Sprint("Merge ", w.plains[i].epoch == w.plains[k].epoch)]++
	w.set(i, vec.Merge(w.vecs[i], w.vecs[k]), w.plains[i].merge(w.plains[k]))
}

// spoil gives times to those that are no members: all calls are to answer as if they had none.
func (w *walker) spoil(r *numbers, i int) {
	for dc, is := range w.vecs[i].Has {
		if !is {
			w.vecs[i].T[dc] = anyTime(r)
		}
	}
}

func (w *walker) step(t *testing.T, r *numbers) {
	i := r.below(3)
	switch r.below(20) {
	case 0:
		w.make(r, i)
	case 1, 2, 3:
		w.resize(t, r, i)
	case 4, 5, 6, 7:
		w.merge(r, i)
	case 8, 9:
		w.spoil(r, i)
	default:
		w.raise(r, i)
	}
}

func TestLongRunsOfCalls(t *testing.T) {
	r, count := numbers(3), map[string]int{}
	for range 40 {
		w := walker{count: count}
		for i := range w.vecs {
			w.make(&r, i)
		}
		for step := range 500 {
			w.step(t, &r)
			for i, v := range w.vecs {
				wantPlain(t, v, w.plains[i].vec())
				wantAlike(t, v, w.vecs[(i+1)%3])
				_, there := w.plains[i].least()
				count[fmt.Sprint("Least ", there)]++
				count[fmt.Sprint("Leq ", w.plains[i].leq(w.plains[(i+1)%3]))]++
			}
			if t.Failed() {
				t.Fatalf("P11.1: that was call %d", step)
			}
		}
	}
	for _, what := range []string{"Raise true", "Raise false", "Resize 0", "Resize 11", "Merge true", "Merge false", "Least true", "Least false", "Leq true", "Leq false"} {
		if count[what] < 200 {
			t.Errorf("P11.1: in long runs few calls were as %s: %v", what, count)
		}
	}
}
