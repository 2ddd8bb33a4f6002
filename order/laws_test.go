package order_test

import (
	"fmt"
	"slices"
	"testing"

	"confluence/api"
	"confluence/order"
)

// wantRising wants that the marks of the stable ones rise, as they are told.
func wantRising(s *scene, stable []api.Rec) {
	s.Helper()
	for i := range stable {
		if i > 0 && !ahead(stable[i-1], stable[i]) {
			s.Errorf("P13.2: behind %s the commit %s stands behind %s", s.story(), quoted(stable[i]), quoted(stable[i-1]))
		}
	}
}

// wantStayed wants that what was stable stands where it stood.
func wantStayed(s *scene, was, stable []api.Rec) {
	s.Helper()
	if len(stable) < len(was) || !slices.EqualFunc(stable[:len(was)], was, isSame) {
		s.Errorf("P13.3: behind %s what was stable, %s, is %s", s.story(), told(was), told(stable))
	}
}

// In long runs of any calls.
func TestStableOnesRiseAndStay(t *testing.T) {
	grown := 0
	longRuns(t, 41, 400, 120, func(s *scene, was []api.Rec) {
		stable, _ := collected(s.log.From(0), 0)
		wantRising(s, stable)
		wantStayed(s, was, stable)
		if len(was) > 0 && len(stable) > len(was) {
			grown++
		}
	})
	if grown < 2000 {
		t.Errorf("P13.3: in long runs something came behind what was stable but %d times", grown)
	}
}

// By each kind of call, with marks ahead of all that is stable.
func TestStableOnesStayByEachCall(t *testing.T) {
	l := []api.Rec{rec(5, 0, 1), rec(5, 1, 0), rec(7, 0, 2), rec(8, -1, 3)}
	s := made(t, l...)
	s.promise = "P13.3"
	s.release(8, 4)
	s.decide(api.ErrOld, rec(5, -1, 0), rec(4, 0, 1), rec(5, 0, 1), rec(7, 0, 1), rec(8, 9, 9), writing(l[0], strange()...))
	s.want(0, l...)
	s.release(0, 0)
	s.release(5, 0)
	s.want(0, l...)
	s.decide(api.OK, rec(9, lowest, lowest), rec(12, 0, 1))
	s.want(2, l...)
	s.release(9, 1)
	l = append(l, rec(9, lowest, lowest))
	s.want(1, l...)
	for range s.log.From(2) {
		break
	}
	s.want(1, l...)
	s.release(latest, 1)
	s.want(0, append(l, rec(12, 0, 1))...)
}

// orders calls with each order of a list.
func orders(l []api.Rec, each func([]api.Rec)) {
	var choose func(chosen, left []api.Rec)
	choose = func(chosen, left []api.Rec) {
		if len(left) == 0 {
			each(chosen)
		}
		for i, r := range left {
			choose(append(slices.Clone(chosen), r), slices.Delete(slices.Clone(left), i, i+1))
		}
	}
	choose(nil, l)
}

// All orders of a few commits, that are ahead of one another by TS, by DC or by Tx; up to each time.
func TestAnyOrderOfAFew(t *testing.T) {
	for _, l := range [][]api.Rec{
		{rec(2, 0, 1), rec(3, 0, 1), rec(4, 0, 1), rec(5, 0, 1), rec(6, 0, 1)},
		{rec(4, -1, 9), rec(4, 0, 8), rec(4, 1, 7), rec(4, 2, 6), rec(4, 3, 5)},
		{rec(4, 1, -1), rec(4, 1, 0), rec(4, 1, 1), rec(4, 1, 2), rec(4, 1, 10)},
		{rec(3, 3, 3), rec(4, 0, 2), rec(4, 0, 3), rec(4, 1, 1), rec(5, 0, 0)},
		{rec(1, highest, highest), rec(2, lowest, lowest), rec(2, lowest, highest), rec(2, highest, lowest), rec(latest, lowest, lowest)},
	} {
		for _, time := range []uint64{0, 1, 2, 3, 4, 5, latest} {
			count := 0
			for _, r := range l {
				if r.TS <= time {
					count++
				}
			}
			orders(l, func(own []api.Rec) {
				s := made(t, own...)
				s.promise = "P13.4"
				s.release(time, count)
				s.wantWaiting(l[:count], l[count:])
			})
		}
	}
}

// Many commits in any order, many of one TS, with releases of the same times in between.
func TestAnyOrderOfMany(t *testing.T) {
	n := numbers(42)
	for run := range 60 {
		span := 1 + n.below(30)
		var l []api.Rec
		for i := range 120 {
			l = append(l, sized(i%3, uint64(1+n.below(span)), n.below(3)-1, i))
		}
		l = byMarks(l)
		for range 4 {
			s := &scene{T: t, log: order.New(), promise: fmt.Sprint("P13.4: run ", run)}
			s.decide(api.OK, n.shuffled(l)...)
			s.wantWaiting(nil, l)
		}
		wantSameByParts(t, &n, l)
	}
}

// wantSameByParts decides each part ahead of the release that makes it stable, in any order, with what comes later mixed in or not.
func wantSameByParts(t *testing.T, n *numbers, l []api.Rec) {
	t.Helper()
	s := &scene{T: t, log: order.New(), promise: "P13.4"}
	stable, decided := 0, 0
	for stable < len(l) {
		end := stable
		for end < len(l) && l[end].TS <= l[stable].TS+2 {
			end++
		}
		upTo := max(decided, end+n.below(len(l)-end+1))
		s.decide(api.OK, n.shuffled(l[decided:upTo])...)
		s.release(l[stable].TS+2, end-stable)
		s.want(upTo-end, l[:end]...)
		stable, decided = end, upTo
	}
}
