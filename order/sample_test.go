package order_test

import (
	"fmt"
	"math"
	"slices"
	"strings"
	"testing"

	"confluence/api"
	"confluence/order"
)

const (
	latest  = math.MaxUint64
	highest = math.MaxInt
	lowest  = math.MinInt
)

// numbers is a row of numbers that is the same each time.
type numbers uint64

func (n *numbers) next() uint64 {
	*n = *n*6364136223846793005 + 1442695040888963407
	x := uint64(*n)
	return (x ^ x>>29) * 0x9e3779b97f4a7c15
}

func (n *numbers) below(bound int) int { return int(n.next() >> 12 % uint64(bound)) }

// shuffled are the same commits in another order.
func (n *numbers) shuffled(l []api.Rec) []api.Rec {
	l = slices.Clone(l)
	for i := range l {
		k := i + n.below(len(l)-i)
		l[i], l[k] = l[k], l[i]
	}
	return l
}

// moments are times at both ends and in the midst; they rise.
func moments() []uint64 {
	return []uint64{0, 1, 2, 5, 65535, 65536, 1 << 32, 1<<63 - 1, 1 << 63, latest - 1, latest}
}

// ends are numbers at both ends and in the midst; they rise.
func ends() []int {
	return []int{lowest, lowest + 1, -1 << 32, -2, -1, 0, 1, 2, 9, 1 << 32, 1<<32 + 1, highest - 1, highest}
}

// written are so many versions, that tell the commit's mark and which of them each is.
func written(count int, ts uint64, dc, tx int) []api.Ver {
	var l []api.Ver
	for i := range count {
		l = append(l, api.Ver{Key: fmt.Sprint("k", i), Val: fmt.Sprint(ts, " ", dc, " ", tx), TS: ts, DC: dc, Tx: tx})
	}
	return l
}

// sized is the commit of this mark with so many versions.
func sized(count int, ts uint64, dc, tx int) api.Rec {
	return api.Rec{TS: ts, DC: dc, Tx: tx, Vers: written(count, ts, dc, tx)}
}

func rec(ts uint64, dc, tx int) api.Rec { return sized(1, ts, dc, tx) }

// times are commits of these times.
func times(l ...uint64) []api.Rec {
	var commits []api.Rec
	for _, ts := range l {
		commits = append(commits, rec(ts, 0, 1))
	}
	return commits
}

// writing is the commit with other versions.
func writing(r api.Rec, l ...api.Ver) api.Rec {
	r.Vers = l
	return r
}

// strange are versions of all kinds, that a log looks at no field of.
func strange() []api.Ver {
	long := strings.Repeat("\xff\x00", 5000)
	return []api.Ver{{}, {Key: "a", Val: "x"}, {Key: "a", Gone: true}, {Key: long, Val: long, Gone: true}, {Val: "\xc3\xa4\x00"}, {TS: latest}, {TS: 1}, {DC: lowest}, {DC: highest, Tx: lowest}, {Tx: highest}, {Key: "z", Val: "v", Gone: true, TS: 7, DC: 2, Tx: 9}}
}

func isSame(a, b api.Rec) bool {
	return a.TS == b.TS && a.DC == b.DC && a.Tx == b.Tx && slices.Equal(a.Vers, b.Vers)
}

// ahead tells whether a's mark is ahead of b's.
func ahead(a, b api.Rec) bool {
	switch {
	case a.TS != b.TS:
		return a.TS < b.TS
	case a.DC != b.DC:
		return a.DC < b.DC
	}
	return a.Tx < b.Tx
}

// byMarks are the same commits by rising marks.
func byMarks(l []api.Rec) []api.Rec {
	l = slices.Clone(l)
	slices.SortStableFunc(l, func(a, b api.Rec) int {
		switch {
		case ahead(a, b):
			return -1
		case ahead(b, a):
			return 1
		}
		return 0
	})
	return l
}

func quoted(r api.Rec) string {
	var b strings.Builder
	fmt.Fprintf(&b, "(%d, %d, %d", r.TS, r.DC, r.Tx)
	for i, v := range r.Vers {
		if i >= 3 {
			fmt.Fprintf(&b, "; .. %d in all", len(r.Vers))
			break
		}
		fmt.Fprintf(&b, "; %.12q %.20q %t %d %d %d", v.Key, v.Val, v.Gone, v.TS, v.DC, v.Tx)
	}
	return b.String() + ")"
}

func told(l []api.Rec) string {
	var b strings.Builder
	fmt.Fprintf(&b, "%d commits:", len(l))
	for i, r := range l {
		if i >= 12 {
			return b.String() + " .."
		}
		fmt.Fprintf(&b, " %s", quoted(r))
	}
	return b.String()
}

// collected is what is told by a function of From; false: the places aren't those from a place on.
func collected(commits func(func(int, api.Rec) bool), from int) ([]api.Rec, bool) {
	var l []api.Rec
	right := true
	for i, r := range commits {
		right = right && i == from+len(l)
		l = append(l, r)
	}
	return l, right
}

// wantTold wants these commits of a function of From, with their places from a place on.
func wantTold(t *testing.T, promise, call string, commits func(func(int, api.Rec) bool), from int, want []api.Rec) {
	t.Helper()
	got, right := collected(commits, from)
	if !slices.EqualFunc(got, want, isSame) {
		t.Errorf("%s: %s tells %s; not %s", promise, call, told(got), told(want))
	}
	if !right {
		t.Errorf("%s: %s tells other places than those from %d on", promise, call, from)
	}
}

// wantAnswer wants what Decide or Release answers.
func wantAnswer[E comparable](t *testing.T, promise, call string, got, want E) {
	t.Helper()
	if got != want {
		t.Errorf("%s: %s answers %v, not %v", promise, call, got, want)
	}
}

// scene is a log, and what was done with it.
type scene struct {
	*testing.T
	log     *order.Log
	promise string
	done    []string
}

// made is a scene of a new log that decided these commits, none of which is refused.
func made(t *testing.T, commits ...api.Rec) *scene {
	t.Helper()
	s := &scene{T: t, log: order.New(), promise: "P13.1"}
	s.decide(api.OK, commits...)
	return s
}

// stableOf is a scene of a log whose stable commits are these.
func stableOf(t *testing.T, commits ...api.Rec) *scene {
	t.Helper()
	s := made(t, commits...)
	s.release(latest, len(commits))
	return s
}

// did puts a call behind those that were done, and tells the last ones of all.
func (s *scene) did(call string) string {
	s.done = append(s.done, call)
	return s.story()
}

func (s *scene) story() string { return strings.Join(s.done[max(0, len(s.done)-25):], ", ") }

// decide wants the same error of each commit.
func (s *scene) decide(want api.Errno, commits ...api.Rec) {
	s.Helper()
	for _, r := range commits {
		e := s.log.Decide(r)
		wantAnswer(s.T, s.promise, s.did("Decide "+quoted(r)), e, want)
	}
}

func (s *scene) release(t uint64, want int) {
	s.Helper()
	count := s.log.Release(t)
	wantAnswer(s.T, s.promise, s.did(fmt.Sprintf("Release(%d)", t)), count, want)
}

// want wants that so many wait, and that the stable ones are these.
func (s *scene) want(waiting int, stable ...api.Rec) {
	s.Helper()
	wantAnswer(s.T, s.promise, "behind "+s.story()+": Len", s.log.Len(), len(stable))
	wantAnswer(s.T, s.promise, "behind "+s.story()+": Waiting", s.log.Waiting(), waiting)
	wantTold(s.T, s.promise, "behind "+s.story()+": From(0)", s.log.From(0), 0, stable)
}

// wantWaiting wants that just these wait, behind the stable ones: they are all released.
func (s *scene) wantWaiting(stable, waiting []api.Rec) {
	s.Helper()
	s.want(len(waiting), stable...)
	s.release(latest, len(waiting))
	s.want(0, slices.Concat(stable, byMarks(waiting))...)
}
