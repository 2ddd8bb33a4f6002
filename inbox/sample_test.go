package inbox_test

import (
	"fmt"
	"math"
	"slices"
	"strings"
	"testing"

	"confluence/api"
	"confluence/inbox"
)

const (
	latest  = math.MaxUint64
	highest = math.MaxInt
	lowest  = math.MinInt
	// farthest is the last place at which something is promised of a new box.
	farthest = 1 << 60
)

// numbers is a row of numbers that is the same each time.
type numbers uint64

func (n *numbers) next() uint64 {
	*n = *n*6364136223846793005 + 1442695040888963407
	x := uint64(*n)
	return (x ^ x>>29) * 0x9e3779b97f4a7c15
}

func (n *numbers) below(bound int) int { return int(n.next() >> 12 % uint64(bound)) }

// shuffled are the same things in another order.
func shuffled[E any](n *numbers, l []E) []E {
	l = slices.Clone(l)
	for i := range l {
		k := i + n.below(len(l)-i)
		l[i], l[k] = l[k], l[i]
	}
	return l
}

// orders calls with each order of a list.
func orders[E any](l []E, each func([]E)) {
	var choose func(chosen, left []E)
	choose = func(chosen, left []E) {
		if len(left) == 0 {
			each(chosen)
		}
		for i, e := range left {
			choose(append(slices.Clone(chosen), e), slices.Delete(slices.Clone(left), i, i+1))
		}
	}
	choose(nil, l)
}

// moments are times at both ends and in the midst; they rise.
func moments() []uint64 {
	return []uint64{0, 1, 2, 5, 65535, 65536, 1 << 32, 1<<63 - 1, 1 << 63, latest - 1, latest}
}

// ends are numbers at both ends and in the midst; they rise.
func ends() []int {
	return []int{lowest, lowest + 1, -1 << 32, -2, -1, 0, 1, 2, 9, 1 << 32, 1<<32 + 1, highest - 1, highest}
}

// beginnings are places at which boxes begin.
func beginnings() []int { return []int{0, 1, 3, 4096, 1 << 31, 1 << 32, farthest - 1, farthest} }

// around are numbers at both ends, and all those from a little ahead of one to a little behind another one.
func around(from, upTo int) []int {
	l := ends()
	for i := from - 3; i <= upTo+3; i++ {
		l = append(l, i)
	}
	return append(l, -from-1, upTo+api.MostQueue, upTo-api.MostQueue)
}

// sized is a commit of this time with so many versions, that tell which of them each is.
func sized(count int, ts uint64, dc, tx int) api.Rec {
	r := api.Rec{TS: ts, DC: dc, Tx: tx}
	for i := range count {
		r.Vers = append(r.Vers, api.Ver{Key: fmt.Sprint("k", i), Val: fmt.Sprint(ts, " ", dc, " ", tx), TS: ts, DC: dc, Tx: tx})
	}
	return r
}

// of is the commit that the tests put at a place.
func of(at int) api.Rec { return sized(at%4, uint64(at)*3+7, 1, at) }

// from are the commits of so many places, from one on.
func from(at, count int) []api.Rec {
	var l []api.Rec
	for i := range count {
		l = append(l, of(at+i))
	}
	return l
}

// writing is the commit with other versions.
func writing(r api.Rec, l ...api.Ver) api.Rec {
	r.Vers = l
	return r
}

// strange are versions of all kinds, that a box looks at no field of.
func strange() []api.Ver {
	long := strings.Repeat("\xff\x00", 5000)
	return []api.Ver{{}, {Key: "a", Val: "x"}, {Key: "a", Gone: true}, {Key: long, Val: long, Gone: true}, {Val: "\xc3\xa4\x00"}, {TS: latest}, {TS: 1}, {DC: lowest}, {DC: highest, Tx: lowest}, {Tx: highest}, {Key: "z", Val: "v", Gone: true, TS: 7, DC: 2, Tx: 9}}
}

// anyCommits are commits of marks and versions of all kinds; a box looks at none of these.
func anyCommits() []api.Rec {
	l := []api.Rec{{}, {Vers: []api.Ver{}}, {Vers: make([]api.Ver, 0, 6)}, {Vers: strange()}, sized(8, 9, 1, 4), sized(api.MostVers, 3, 0, 1), sized(2*api.MostVers, 3, 0, 1)}
	for _, ts := range moments() {
		l = append(l, sized(1, ts, 0, 1), api.Rec{TS: ts})
	}
	for _, n := range ends() {
		l = append(l, sized(1, 5, n, 1), sized(1, 5, 0, n), sized(2, latest, n, n), sized(0, 0, n, n))
	}
	for _, v := range strange() {
		l = append(l, writing(sized(0, 5, 0, 1), v, v))
	}
	return l
}

func isSame(a, b api.Rec) bool {
	return a.TS == b.TS && a.DC == b.DC && a.Tx == b.Tx && slices.Equal(a.Vers, b.Vers)
}

func quoted(r api.Rec) string {
	var b strings.Builder
	fmt.Fprintf(&b, "(%d, %d, %d", r.TS, r.DC, r.Tx)
	for i, v := range r.Vers {
		if i >= 3 {
			fmt.Fprintf(&b, "; .. %d in all", len(r.Vers))
			break
		}
		fmt.Fprintf(&b, "; %.12q %.20q %t %d %d %d", v.Key, v.Val, v.Gone, v.TS, v.DC, v.Tx)
	}
	return b.String() + ")"
}

// scene is a box, and what was done with it.
type scene struct {
	*testing.T
	box     *inbox.Box
	promise string
	calls   []string
}

// begun is a scene of a box that begins at a place.
func begun(t *testing.T, at int) *scene {
	return &scene{T: t, box: inbox.New(at), promise: "P14.1", calls: []string{fmt.Sprintf("New(%d)", at)}}
}

// held is a scene of a box that begins at a place: so many commits came, so many of them were handed out, and so many of these are applied.
func held(t *testing.T, at, came, out, applied int) *scene {
	t.Helper()
	s := begun(t, at)
	s.put(api.OK, at, from(at, came)...)
	s.next(at, from(at, out)...)
	for i := range applied {
		s.finish(api.OK, at+i)
	}
	return s
}

// did puts a call behind those that were done.
func (s *scene) did(call string, a ...any) { s.calls = append(s.calls, fmt.Sprintf(call, a...)) }

// wrong tells what is wrong behind the last ones of the calls that were done.
func (s *scene) wrong(what string, a ...any) {
	s.Helper()
	story := strings.Join(s.calls[max(0, len(s.calls)-25):], ", ")
	s.Errorf("%s: behind %s: %s", s.promise, story, fmt.Sprintf(what, a...))
}

// wantLast wants this error of the last one of the calls.
func (s *scene) wantLast(got, want api.Errno) {
	s.Helper()
	if got != want {
		s.wrong("the last answers %d, not %d", int(got), int(want))
	}
}

// put puts commits at the places from one on, and wants the same error of each.
func (s *scene) put(want api.Errno, at int, commits ...api.Rec) {
	s.Helper()
	for i, r := range commits {
		e := s.box.Put(at+i, r)
		s.did("Put(%d, %s)", at+i, quoted(r))
		s.wantLast(e, want)
	}
}

// refuse puts some commits at one place, and wants the same error of each.
func (s *scene) refuse(want api.Errno, at int) {
	s.Helper()
	for _, r := range []api.Rec{of(7), {}, writing(of(9), strange()...)} {
		s.put(want, at, r)
	}
}

// peek wants that this commit is the first one that wasn't handed out.
func (s *scene) peek(want api.Rec) {
	s.Helper()
	if r, there := s.box.Peek(); !there || !isSame(r, want) {
		s.wrong("Peek answers %s, %t; not %s", quoted(r), there, quoted(want))
	}
}

// next wants that these commits are handed out, one behind the other, of the places from one on.
func (s *scene) next(from int, want ...api.Rec) {
	s.Helper()
	for i, r := range want {
		at, got, there := s.box.Next()
		s.did("Next")
		if at != from+i || !isSame(got, r) || !there {
			s.wrong("the last answers %d, %s, %t; not %d, %s", at, quoted(got), there, from+i, quoted(r))
		}
	}
}

// none wants that all that came were handed out, and that nothing stands beside the false.
func (s *scene) none() {
	s.Helper()
	if r, there := s.box.Peek(); there || !isSame(r, api.Rec{}) {
		s.wrong("Peek answers %s, %t; not nothing", quoted(r), there)
	}
	if at, r, there := s.box.Next(); there || at != 0 || !isSame(r, api.Rec{}) {
		s.wrong("Next answers %d, %s, %t; not nothing", at, quoted(r), there)
	}
}

// finish wants the same error of Done of each of these places.
func (s *scene) finish(want api.Errno, places ...int) {
	s.Helper()
	for _, at := range places {
		e := s.box.Done(at)
		s.did("Done(%d)", at)
		s.wantLast(e, want)
	}
}

func (s *scene) heart(upto uint64, count int) {
	s.box.Heart(upto, count)
	s.did("Heart(%d, %d)", upto, count)
}

// want wants Applied and Got, also when they are asked again.
func (s *scene) want(applied int, got uint64) {
	s.Helper()
	for range 2 {
		if is := s.box.Applied(); is != applied {
			s.wrong("Applied answers %d, not %d", is, applied)
		}
		if is := s.box.Got(); is != got {
			s.wrong("Got answers %d, not %d", is, got)
		}
	}
}

// wantHeld wants that a box stands as held leaves one, and that it goes on so to its end.
func (s *scene) wantHeld(at, came, out, applied int) {
	s.Helper()
	got := s.box.Got()
	s.want(at+applied, got)
	s.next(at+out, from(at+out, came-out)...)
	s.none()
	s.refuse(api.ErrOld, at+came-1)
	s.refuse(api.ErrNone, at+came+1)
	if came-applied < api.MostQueue {
		s.put(api.OK, at+came, of(at+came))
		came++
		s.next(at+came-1, of(at+came-1))
	}
	for i := applied; i < came; i++ {
		s.finish(api.OK, at+i)
		s.want(at+i+1, got)
	}
	s.finish(api.ErrNone, at+came-1, at+came)
	s.none()
}
