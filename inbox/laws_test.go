package inbox_test

import (
	"testing"

	"confluence/api"
)

// ledger keeps what was taken for which place, and what was handed out of which place, in the order of the calls.
type ledger struct {
	*scene
	first  int
	taken  []api.Rec
	handed int
}

// took puts a commit at a place, and keeps it, if it came.
func (l *ledger) took(at int, r api.Rec) {
	l.Helper()
	e := l.box.Put(at, r)
	l.did("Put(%d, %s)", at, quoted(r))
	if e != api.OK {
		return
	}
	if at != l.first+len(l.taken) {
		l.wrong("it came, not in order")
	}
	l.taken = append(l.taken, r)
}

// handOut asks for the next one, and wants the one that came behind the last one that was handed out.
func (l *ledger) handOut() bool {
	l.Helper()
	at, r, there := l.box.Next()
	l.did("Next")
	if there != (l.handed < len(l.taken)) {
		l.wrong("Next answers %t, with %d of %d handed out", there, l.handed, len(l.taken))
		return false
	}
	if there && (at != l.first+l.handed || !isSame(r, l.taken[l.handed])) {
		l.wrong("handed out is %s of place %d; not %s of place %d", quoted(r), at, quoted(l.taken[l.handed]), l.first+l.handed)
	}
	if there {
		l.handed++
	}
	return there
}

// In long runs of any calls, each commit that came is handed out once, at its place, in order; to the last one.
func TestEachIsHandedOutOnceInOrder(t *testing.T) {
	n, handed := numbers(61), 0
	for run := range 300 {
		first := beginnings()[run%len(beginnings())]
		l := &ledger{scene: begun(t, first), first: first}
		l.promise = "P14.2"
		for range 200 {
			switch n.below(8) {
			case 0, 1:
				l.took(first+len(l.taken)+n.below(5)-2, commit(&n))
			case 2, 3:
				l.took(first+len(l.taken), commit(&n))
			case 4:
				l.box.Peek()
			case 5, 6:
				l.handOut()
			default:
				l.box.Done(first + n.below(l.handed+2) - 1)
				l.box.Heart(n.next(), first+n.below(len(l.taken)+2))
			}
		}
		for l.handOut() {
		}
		handed += l.handed
		if t.Failed() {
			return
		}
	}
	if handed < 15000 {
		t.Errorf("P14.2: in long runs but %d were handed out", handed)
	}
}

// Those that are handed out aren't again, in whatever order they are applied, and whatever comes again for their places.
func TestNoneIsHandedOutAgain(t *testing.T) {
	orders([]int{5, 6, 7, 8, 9}, func(places []int) {
		s := held(t, 5, 5, 5, 0)
		s.promise = "P14.2"
		for _, at := range places {
			s.none()
			s.refuse(api.ErrOld, at)
			s.finish(api.OK, at)
			s.refuse(api.ErrOld, at)
			s.none()
		}
		s.put(api.OK, 10, of(10))
		s.next(10, of(10))
		s.none()
	})
}

// Two commits that are the same, of two places, are handed out each.
func TestSameCommitsAreHandedOutEach(t *testing.T) {
	s := begun(t, 0)
	s.promise = "P14.2"
	s.put(api.OK, 0, of(3), of(3), of(4), of(3))
	s.next(0, of(3), of(3), of(4), of(3))
	s.none()
}

// wantSaid wants that Got is what a heart says whose commits are all applied, or 0.
func wantSaid(w *walker) {
	w.Helper()
	got := w.box.Got()
	for _, h := range w.p.hearts {
		if h.upto == got && h.count <= w.box.Applied() {
			return
		}
	}
	if got != 0 {
		w.wrong("Got answers %d, which no heart says that is reached", got)
	}
}

// In long runs of any calls: Got never falls, and is what a reached heart says.
func TestGotNeverFallsAndIsSaid(t *testing.T) {
	was, waiting := uint64(0), 0
	longRuns(t, 62, 500, 200, func(w *walker) {
		w.promise = "P14.3"
		was = w.box.Got()
	}, func(w *walker) {
		if got := w.box.Got(); got < was {
			w.wrong("Got answers %d, and was %d", got, was)
		}
		wantSaid(w)
		for _, h := range w.p.hearts {
			if h.upto > w.box.Got() && h.count > w.box.Applied() {
				waiting++
				break
			}
		}
	})
	if waiting < 30000 {
		t.Errorf("P14.3: in long runs but %d times a heart wasn't reached", waiting)
	}
}

// By each kind of call that isn't the last one that a heart waits for, Got stays.
func TestGotStaysBelowAHeartThatIsNotReached(t *testing.T) {
	for _, said := range []uint64{0, 30} {
		s := begun(t, 2)
		s.promise = "P14.3"
		s.heart(said, 2)
		for _, count := range []int{5, 6, 4096, highest} {
			s.heart(50, count)
			s.heart(40, count)
			s.heart(latest, count)
		}
		s.want(2, said)
		s.put(api.OK, 2, from(2, 4)...)
		s.want(2, said)
		s.next(2, from(2, 3)...)
		s.want(2, said)
		s.finish(api.OK, 4, 3)
		s.want(2, said)
		s.finish(api.ErrNone, 4, 3, 5, 6, lowest, highest)
		s.refuse(api.ErrOld, 2)
		s.refuse(api.ErrNone, 9)
		s.want(2, said)
		s.finish(api.OK, 2)
		s.want(5, latest)
	}
}

// The time of a heart that isn't reached is told, where another one that is reached says it, or a later one.
func TestGotWhereAnotherHeartSaysIt(t *testing.T) {
	for _, said := range []uint64{50, 51, latest} {
		for _, count := range []int{-1, 0, 3, 4} {
			s := held(t, 3, 3, 3, 1)
			s.promise = "P14.3"
			s.heart(50, 5)
			s.want(4, 0)
			s.heart(said, count)
			s.want(4, said)
			s.heart(50, 6)
			s.want(4, said)
			s.finish(api.OK, 4)
			s.want(5, said)
		}
	}
}
