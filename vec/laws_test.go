package vec_test

import (
	"testing"

	"confluence/api"
	"confluence/vec"
)

// smallOnes are all vectors of two epochs and of few times, plain and not.
func smallOnes() []vec.Vec {
	var l []vec.Vec
	for epoch := range 2 {
		l = append(l, vectorsOf(epoch, out(0), out(1), in(0), in(1), in(2))...)
	}
	return l
}

func wantSameBothWays(t *testing.T, a, b vec.Vec) {
	t.Helper()
	if one, other := vec.Merge(a, b), vec.Merge(b, a); one != other {
		t.Errorf("P11.2: Merge of %s and %s is %s, and the other way round %s", told(a), told(b), told(one), told(other))
	}
}

func wantSelfMadePlain(t *testing.T, v vec.Vec) {
	t.Helper()
	wantMerge(t, "P11.2", v, v, vec.Plain(v))
	wantMerge(t, "P11.2", v, vec.Plain(v), vec.Plain(v))
	if isPlain(v) {
		wantMerge(t, "P11.2", v, v, v)
	}
}

func wantSameBrackets(t *testing.T, a, b, c vec.Vec) {
	t.Helper()
	if one, other := vec.Merge(vec.Merge(a, b), c), vec.Merge(a, vec.Merge(b, c)); one != other {
		t.Errorf("P11.2: Merge of %s, %s and %s is %s, and with the other brackets %s", told(a), told(b), told(c), told(one), told(other))
	}
}

// wantBothLeq is for vectors of one epoch.
func wantBothLeq(t *testing.T, a, b vec.Vec) {
	t.Helper()
	if m := vec.Merge(a, b); !vec.Leq(a, m) || !vec.Leq(b, m) {
		t.Errorf("P11.2: Merge(%s, %s) is %s, to which not both are Leq", told(a), told(b), told(m))
	}
}

// wantNoLesser wants that what both are Leq to is none that their Merge isn't Leq to.
func wantNoLesser(t *testing.T, a, b, c vec.Vec) {
	t.Helper()
	if m := vec.Merge(a, b); vec.Leq(a, c) && vec.Leq(b, c) && !vec.Leq(m, c) {
		t.Errorf("P11.2: %s and %s are Leq to %s, but their Merge %s isn't", told(a), told(b), told(c), told(m))
	}
}

func TestMergeOfTwoSmallOnes(t *testing.T) {
	l := smallOnes()
	for i, a := range l {
		wantSelfMadePlain(t, a)
		for _, b := range l[i:] {
			wantSameBothWays(t, a, b)
			if a.Epoch == b.Epoch {
				wantBothLeq(t, a, b)
			}
		}
		if t.Failed() {
			return
		}
	}
}

// All plain vectors of one epoch with times 0 and 1.
func TestMergeOfThreeSmallOnes(t *testing.T) {
	wantLawsOfThree(t, plainOnes(5, 0, 1))
}

// Vectors of one epoch, plain and not: all there are of two datacenters with three times, and of three with two.
func TestMergeOfThreeSmallOnesThatAreNotPlain(t *testing.T) {
	wantLawsOfThree(t, fewOf(-3, 2, out(0), out(1), in(0), in(1), in(2)))
	wantLawsOfThree(t, fewOf(0, 3, out(0), out(1), in(0), in(1)))
}

func wantLawsOfThree(t *testing.T, l []vec.Vec) {
	t.Helper()
	for _, a := range l {
		for _, b := range l {
			for _, c := range l {
				wantSameBrackets(t, a, b, c)
				wantNoLesser(t, a, b, c)
			}
		}
		if t.Failed() {
			return
		}
	}
}

// There is one that is the least that both are Leq to: two that are each Leq to the other are alike when made plain.
func TestLeqBothWaysIsAlike(t *testing.T) {
	l := smallOnes()
	for _, a := range l {
		for _, b := range l {
			if (vec.Leq(a, b) && vec.Leq(b, a)) != (vec.Plain(a) == vec.Plain(b)) {
				t.Fatalf("P11.2: Leq both ways of %s and %s", told(a), told(b))
			}
		}
	}
}

// Any vectors, of great times and epochs too.
func TestMergeOfAnyOnes(t *testing.T) {
	r := numbers(21)
	below := 0
	for range 100000 {
		a, b, c := anyVector(&r), anyVector(&r), anyVector(&r)
		wantSameBothWays(t, a, b)
		wantSelfMadePlain(t, a)
		b.Epoch, c.Epoch = a.Epoch, a.Epoch
		wantSameBothWays(t, a, b)
		wantSameBrackets(t, a, b, c)
		wantBothLeq(t, a, b)
		wantNoLesser(t, a, b, c)
		for dc := range 4 {
			c.Has[dc] = c.Has[dc] || a.Has[dc] || b.Has[dc]
			c.T[dc] = max(a.T[dc], b.T[dc], c.T[dc])
		}
		wantNoLesser(t, a, b, c)
		if vec.Leq(a, c) && vec.Leq(b, c) {
			below++
		}
	}
	if below != 100000 {
		t.Errorf("P11.2: both were Leq to one that has all that they have %d times of 100000", below)
	}
}

// wantNotFallen wants that the least time behind a call isn't below the one ahead of it.
func wantNotFallen(t *testing.T, call string, ahead, behind vec.Vec) {
	t.Helper()
	was, wasThere := vec.Least(ahead)
	is, isThere := vec.Least(behind)
	if wasThere && isThere && is < was {
		t.Errorf("P11.3: %s of %s makes %s, and its least time falls from %d to %d", call, told(ahead), told(behind), was, is)
	}
}

func TestRaisedLeastDoesNotFall(t *testing.T) {
	for _, v := range unplainOnes(0, 1, 3, latest) {
		for dc := -1; dc <= 4; dc++ {
			for _, to := range []uint64{0, 1, 2, 3, 4, latest - 1, latest} {
				raised := vec.Raise(v, dc, to)
				wantNotFallen(t, "Raise", v, raised)
				if _, ahead := vec.Least(v); ahead {
					if _, behind := vec.Least(raised); !behind {
						t.Errorf("P11.3: Raise of %s makes %s, and there is no least time any more", told(v), told(raised))
					}
				}
			}
		}
	}
}

func TestLeastOfFewerDoesNotFall(t *testing.T) {
	for _, v := range unplainOnes(0, 1, 3, latest) {
		for _, has := range allMembers() {
			comes := false
			for dc := range 4 {
				comes = comes || has[dc] && !v.Has[dc]
			}
			if comes {
				continue
			}
			smaller, e := vec.Resize(v, 1, has)
			if e != api.OK {
				t.Errorf("P11.3: Resize of %s has error %d", told(v), e)
			}
			wantNotFallen(t, "Resize to "+toldMembers(has), v, smaller)
		}
	}
}

// raisedOrFewer is the vector with a time raised, or now and then with a member less; and what was done.
func raisedOrFewer(r *numbers, v vec.Vec, bound int) (vec.Vec, string) {
	if r.below(60) > 0 || v.Epoch == highest {
		return vec.Raise(v, r.below(6)-1, uint64(r.below(bound))), "Raise"
	}
	fewer := v.Has
	fewer[r.below(4)] = false
	v, _ = vec.Resize(v, v.Epoch+1, fewer)
	return v, "Resize to " + toldMembers(fewer)
}

func TestLeastDoesNotFallInLongRuns(t *testing.T) {
	r, rises, goings := numbers(31), 0, 0
	for _, bound := range []int{4, 20, 1000, 1 << 40} {
		for range 200 {
			v := anyVector(&r)
			for range 300 {
				next, call := raisedOrFewer(&r, v, bound)
				wantNotFallen(t, call, v, next)
				was, _ := vec.Least(v)
				if is, there := vec.Least(next); there && is > was {
					rises++
				}
				if next.Has != v.Has {
					goings++
				}
				v = next
			}
			if t.Failed() {
				return
			}
		}
	}
	if rises < 1000 || goings < 1000 {
		t.Errorf("P11.3: in long runs the least time rose but %d times, and members went but %d times", rises, goings)
	}
}
