package chain_test

import (
	"fmt"
	"math"
	"slices"
	"strings"
	"testing"

	"confluence/api"
	"confluence/chain"
)

const (
	latest  = math.MaxUint64
	highest = math.MaxInt
	lowest  = math.MinInt
)

// numbers is a row of numbers that is the same each time.
type numbers uint64

func (n *numbers) next() uint64 {
	*n = *n*6364136223846793005 + 1442695040888963407
	x := uint64(*n)
	return (x ^ x>>29) * 0x9e3779b97f4a7c15
}

func (n *numbers) below(bound int) int { return int(n.next() >> 12 % uint64(bound)) }

// shuffled are the same versions in another order.
func (n *numbers) shuffled(l []api.Ver) []api.Ver {
	l = own(l)
	for i := range l {
		k := i + n.below(len(l)-i)
		l[i], l[k] = l[k], l[i]
	}
	return l
}

// ver is the version of this mark.
func ver(ts uint64, dc, tx int) api.Ver {
	return api.Ver{Key: "k", Val: fmt.Sprint(ts, " ", dc, " ", tx), TS: ts, DC: dc, Tx: tx}
}

// valued is the version with another value.
func valued(v api.Ver, val string) api.Ver {
	v.Val = val
	return v
}

func gone(v api.Ver) api.Ver {
	v.Val, v.Gone = "", true
	return v
}

// times are versions of these times.
func times(l ...uint64) []api.Ver {
	var versions []api.Ver
	for _, ts := range l {
		versions = append(versions, ver(ts, 0, 0))
	}
	return versions
}

// own are the same versions in memory of the test's.
func own(l []api.Ver) []api.Ver {
	c := make([]api.Ver, len(l))
	for i, v := range l {
		c[i] = v
	}
	return c
}

// without is the list but for the version of a place.
func without(l []api.Ver, i int) []api.Ver { return append(own(l[:i]), l[i+1:]...) }

func told(l []api.Ver) string {
	var b strings.Builder
	fmt.Fprintf(&b, "%d versions:", len(l))
	for i, v := range l {
		if i >= 12 {
			return b.String() + " .."
		}
		fmt.Fprintf(&b, " %s", quoted(v))
	}
	return b.String()
}

func quoted(v api.Ver) string {
	return fmt.Sprintf("(%q %q %t, %d %d %d)", v.Key, v.Val, v.Gone, v.TS, v.DC, v.Tx)
}

func wantList(t *testing.T, promise, call string, got []api.Ver, e api.Errno, want []api.Ver) {
	t.Helper()
	if !slices.Equal(got, want) || e != api.OK {
		t.Errorf("%s: %s is %s with error %d, not %s", promise, call, told(got), e, told(want))
	}
}

func wantRefused(t *testing.T, promise, call string, got []api.Ver, e, want api.Errno) {
	t.Helper()
	if e != want {
		t.Errorf("%s: %s has error %d, not %d", promise, call, e, want)
	}
	if len(got) > 0 {
		t.Errorf("R5: %s tells %s beside error %d", call, told(got), e)
	}
}

// wantAnswered holds what Put or Join answered against what a list of the test's own did.
func wantAnswered(t *testing.T, promise, call string, got []api.Ver, e api.Errno, want []api.Ver, wantE api.Errno) {
	t.Helper()
	if wantE == api.OK {
		wantList(t, promise, call, got, e, want)
	} else {
		wantRefused(t, promise, call, got, e, wantE)
	}
}

func wantPut(t *testing.T, l []api.Ver, v api.Ver, want []api.Ver) {
	t.Helper()
	got, e := chain.Put(l, v)
	wantList(t, "P9.1", fmt.Sprintf("Put(%s, %s)", told(l), quoted(v)), got, e, want)
}

func wantPutRefused(t *testing.T, l []api.Ver, v api.Ver, want api.Errno) {
	t.Helper()
	got, e := chain.Put(l, v)
	wantRefused(t, "P9.1", fmt.Sprintf("Put(%s, %s)", told(l), quoted(v)), got, e, want)
}

// wantChain holds that a list is one.
func wantChain(t *testing.T, promise, call string, l []api.Ver) {
	t.Helper()
	for i := range l {
		if i > 0 && !ahead(l[i-1], l[i]) {
			t.Errorf("%s: %s is no chain: place %d of %s", promise, call, i, told(l))
			return
		}
	}
}

// rising are so many versions whose marks rise, of few times, datacenters and numbers each.
func rising(count int) []api.Ver {
	var l []api.Ver
	for i := range count {
		v := ver(uint64(10+3*(i/6)), i/2%3, 5+4*(i%2))
		if i%7 == 3 {
			v = gone(v)
		}
		l = append(l, v)
	}
	return l
}

// chains are lists whose marks rise.
func chains() [][]api.Ver {
	return [][]api.Ver{
		nil,
		{},
		times(5),
		times(0),
		times(latest),
		times(3, 7),
		times(0, 1, 2, 3),
		times(0, 1<<63-1, 1<<63, latest),
		{ver(4, 0, 1), ver(4, 0, 2), ver(4, 0, 10)},
		{ver(4, 0, 9), ver(4, 1, 5), ver(4, 2, 1), ver(4, 10, 0)},
		{ver(4, 3, 9), ver(5, 2, 5), ver(6, 1, 7), ver(7, 0, 1)},
		{ver(4, lowest, 0), ver(4, -1, 0), ver(4, 0, 0), ver(4, highest, 0)},
		{ver(4, 0, lowest), ver(4, 0, -1), ver(4, 0, 0), ver(4, 0, highest)},
		{valued(ver(2, 0, 0), ""), gone(ver(4, 0, 0)), ver(6, 0, 0)},
		{valued(ver(2, 1, 1), "same"), valued(ver(4, 1, 1), "same"), valued(ver(4, 1, 2), "same")},
		{{Key: "a", TS: 2}, {Key: "", TS: 3}, {Key: "z", Val: strings.Repeat("long ", 100), TS: 4}},
		rising(40),
		rising(300),
	}
}

// mixed are lists that are no chains.
func mixed() [][]api.Ver {
	r := numbers(9)
	return [][]api.Ver{
		times(7, 3),
		times(9, 7, 5, 3, 1),
		times(5, 5),
		times(3, 5, 5, 7),
		times(latest, 0),
		times(3, 9, 5, 7),
		times(9, 1, 2, 3),
		{ver(5, 0, 0), valued(ver(5, 0, 0), "other")},
		{ver(5, 0, 0), valued(ver(5, 0, 0), "other"), valued(ver(5, 0, 0), "third")},
		{valued(ver(5, 1, 1), "other"), ver(3, 0, 0), ver(5, 1, 1), ver(9, 0, 0), gone(ver(5, 1, 1))},
		{ver(9, 0, 0), ver(5, 1, 1), ver(3, 0, 0), valued(ver(5, 1, 1), "other")},
		{ver(3, 0, 0), valued(ver(3, 0, 0), "other"), ver(7, 0, 0), valued(ver(7, 0, 0), "other")},
		{ver(4, 2, 0), ver(4, 1, 9), ver(4, 1, 3), ver(4, 0, 50)},
		{ver(4, 0, highest), ver(4, 0, lowest), ver(4, highest, 0), ver(4, lowest, 0)},
		make([]api.Ver, 3),
		append(rising(30), rising(30)...),
		append(rising(60)[30:], rising(60)[:30]...),
		r.shuffled(append(rising(20), rising(9)...)),
		anyList(&r, 300),
	}
}

func allLists() [][]api.Ver { return append(chains(), mixed()...) }

// anyVersion has one of a few marks.
func anyVersion(r *numbers) api.Ver {
	v := ver(uint64(r.below(5)), r.below(3), r.below(3))
	switch r.below(12) {
	case 0:
		return valued(v, "other")
	case 1:
		return gone(v)
	}
	return v
}

func anyList(r *numbers, count int) []api.Ver {
	var l []api.Ver
	for range count {
		l = append(l, anyVersion(r))
	}
	return l
}

// likenesses are versions with the mark of v that differ from it in one field else.
func likenesses(v api.Ver) []api.Ver {
	key, longer, other := v, v, v
	key.Key += "x"
	longer.Val += "x"
	other.Gone = !v.Gone
	l := []api.Ver{key, longer, other}
	if v.Val != "" {
		l = append(l, valued(v, ""))
	}
	if v.Key != "" {
		v.Key = ""
		l = append(l, v)
	}
	return l
}

// neighbours are versions that differ from v in one field of its mark alone.
func neighbours(v api.Ver) []api.Ver {
	var l []api.Ver
	for _, by := range []int{-1, 1} {
		ts, dc, tx := v, v, v
		ts.TS += uint64(by)
		dc.DC += by
		tx.Tx += by
		l = append(l, ts, dc, tx)
	}
	return l
}

// few are so many of a list, its first and its last one with them.
func few(l []api.Ver, count int) []api.Ver {
	if len(l) <= count {
		return l
	}
	var some []api.Ver
	for i := range count {
		some = append(some, l[i*(len(l)-1)/(count-1)])
	}
	return some
}

// newcomers are versions to be put into a list: its own, such as are much like these, and such as are far from them.
func newcomers(l []api.Ver) []api.Ver {
	some := []api.Ver{{}, ver(0, 0, 1), ver(5, 0, 0), ver(5, 1, 1), gone(ver(6, 1, 0)), ver(1<<63, 0, 0), ver(latest, 3, 9), ver(latest, highest, highest), ver(0, lowest, lowest)}
	for _, v := range few(l, 8) {
		some = append(some, v)
		some = append(some, likenesses(v)...)
		some = append(some, neighbours(v)...)
	}
	return some
}

// moments are the times that tell a list's versions apart, and some far from them; they rise.
func moments(l []api.Ver) []uint64 {
	some := []uint64{0, 1, 1<<63 - 1, 1 << 63, latest - 1, latest}
	for _, v := range l {
		some = append(some, v.TS-1, v.TS, v.TS+1)
	}
	slices.Sort(some)
	return slices.Compact(some)
}

// seen is what At answers.
type seen struct {
	v     api.Ver
	there bool
}

func (s seen) String() string { return fmt.Sprintf("%s, %t", quoted(s.v), s.there) }

func seenAt(l []api.Ver, snap uint64) seen {
	v, there := chain.At(l, snap)
	return seen{v, there}
}
