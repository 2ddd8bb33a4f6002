package coord_test

import (
	"fmt"
	"math"
	"slices"
	"strings"
	"testing"

	"confluence/api"
	"confluence/coord"
)

const (
	latest  = math.MaxUint64
	highest = math.MaxInt
	lowest  = math.MinInt
)

// numbers is a row of numbers that is the same each time.
type numbers uint64

func (n *numbers) next() uint64 {
	*n = *n*6364136223846793005 + 1442695040888963407
	x := uint64(*n)
	return (x ^ x>>29) * 0x9e3779b97f4a7c15
}

func (n *numbers) below(bound int) int { return int(n.next() >> 12 % uint64(bound)) }

// one is any of a list.
func one[E any](n *numbers, l []E) E { return l[n.below(len(l))] }

// shuffled are the same elements in any order.
func shuffled[E any](n *numbers, l []E) []E {
	l = slices.Clone(l)
	for i := range l {
		k := i + n.below(len(l)-i)
		l[i], l[k] = l[k], l[i]
	}
	return l
}

// orders calls with each order of a list.
func orders[E any](l []E, each func([]E)) {
	var choose func(chosen, left []E)
	choose = func(chosen, left []E) {
		if len(left) == 0 {
			each(chosen)
		}
		for i, e := range left {
			choose(append(slices.Clone(chosen), e), slices.Delete(slices.Clone(left), i, i+1))
		}
	}
	choose(nil, l)
}

// moments are stamps at both ends and in the midst; they rise.
func moments() []uint64 {
	return []uint64{0, 1, 2, 5, 65535, 65536, 1 << 32, 1<<63 - 1, 1 << 63, latest - 1, latest}
}

// txs are transactions' numbers at both ends and in the midst.
func txs() []uint64 {
	return []uint64{0, 1, 2, 7, api.MostTx, api.MostTx + 1, 1<<32 - 1, 1 << 32, 1<<63 - 1, 1 << 63, latest - 1, latest}
}

// places are nodes' numbers at both ends and in the midst, those too that no node has; they rise.
func places() []int {
	return []int{lowest, lowest + 1, -1 << 32, -5, -2, -1, 0, 1, 2, 3, 4, 5, 1 << 32, highest - 1, highest}
}

// long is made but once, since long runs ask for strange texts all the time.
var long = strings.Repeat("\xff", 5000)

// strange are texts with bytes of all kinds; they rise.
func strange() []string {
	return []string{"", "\x00", "\x00\x00", "\n", " ", "A", "a", "a\x00", "aa", "b", "m", "\x7f", "\x80", "\xc3\xa4", "\xe2\x82", "\xff", "\xff\x00", long[:16], long}
}

func version(key, val string) api.Ver { return api.Ver{Key: key, Val: val} }

// keyed are versions of these keys, each of which tells its place.
func keyed(keys ...string) []api.Ver {
	var l []api.Ver
	for i, key := range keys {
		l = append(l, version(key, fmt.Sprint("v", i)))
	}
	return l
}

// strangeVersions are versions of all kinds, that a table looks at no field of but the key.
func strangeVersions() []api.Ver {
	return []api.Ver{{}, {Key: "a", Val: "x"}, {Key: "a", Gone: true}, {Key: long, Val: long, Gone: true}, {Val: "\xc3\xa4\x00"}, {TS: latest}, {TS: 1}, {DC: lowest}, {DC: highest, Tx: lowest}, {Tx: highest}, {Key: "z", Val: "v", Gone: true, TS: 7, DC: 2, Tx: 9}}
}

func share(node int, vers ...api.Ver) coord.Share { return coord.Share{Node: node, Vers: vers} }

// at are shares of these nodes, each with a version that tells its node.
func at(nodes ...int) []coord.Share {
	var l []coord.Share
	for _, node := range nodes {
		l = append(l, share(node, version(fmt.Sprint("k", node), fmt.Sprint("v", node))))
	}
	return l
}

// mapOf is a map with these nodes and cuts, right or not.
func mapOf(nodes []int, cuts ...string) api.Map { return api.Map{Cuts: cuts, Nodes: nodes} }

func versionsOf(shares []coord.Share) []api.Ver {
	var l []api.Ver
	for _, s := range shares {
		l = append(l, s.Vers...)
	}
	return l
}

func nodesOf(shares []coord.Share) []int {
	var l []int
	for _, s := range shares {
		l = append(l, s.Node)
	}
	return l
}

func isSame(a, b coord.Share) bool { return a.Node == b.Node && slices.Equal(a.Vers, b.Vers) }

// own are the same shares in memory of the test's.
func own(shares []coord.Share) []coord.Share {
	var l []coord.Share
	for _, s := range shares {
		l = append(l, share(s.Node, append([]api.Ver(nil), s.Vers...)...))
	}
	return l
}

func quoted(l []api.Ver) string {
	var b strings.Builder
	for i, v := range l {
		if i >= 9 {
			fmt.Fprintf(&b, " .. %d in all", len(l))
			break
		}
		fmt.Fprintf(&b, "(%.12q %.12q %t %d %d %d)", v.Key, v.Val, v.Gone, v.TS, v.DC, v.Tx)
	}
	return "[" + b.String() + "]"
}

func told(shares []coord.Share) string {
	var b strings.Builder
	for i, s := range shares {
		if i >= 12 {
			fmt.Fprintf(&b, " .. %d in all", len(shares))
			break
		}
		fmt.Fprintf(&b, " %d: %s", s.Node, quoted(s.Vers))
	}
	return "{" + b.String() + " }"
}

// call is a call that may change a table. Its stamp is what the call has of one: low, or at.
type call struct {
	name      string
	tx, stamp uint64
	node      int
	shares    []coord.Share
}

func start(tx, low uint64, shares ...coord.Share) call {
	return call{name: "Start", tx: tx, stamp: low, shares: shares}
}

func vote(tx uint64, node int, stamp uint64) call {
	return call{name: "Vote", tx: tx, node: node, stamp: stamp}
}

func end(tx uint64, node int) call { return call{name: "End", tx: tx, node: node} }

func (c call) String() string {
	switch c.name {
	case "Start":
		return fmt.Sprintf("Start(%d, %d, %s)", c.tx, c.stamp, told(c.shares))
	case "Vote":
		return fmt.Sprintf("Vote(%d, %d, %d)", c.tx, c.node, c.stamp)
	}
	return fmt.Sprintf("End(%d, %d)", c.tx, c.node)
}

// answer is what a call answers; those without a stamp answer 0, those without a yes or no answer no.
type answer struct {
	stamp uint64
	yes   bool
	e     api.Errno
}

func (a answer) String() string { return fmt.Sprintf("%d, %t, %d", a.stamp, a.yes, int(a.e)) }

func (c call) of(t *coord.Table) answer {
	var a answer
	switch c.name {
	case "Start":
		a.e = t.Start(c.tx, c.stamp, c.shares)
	case "Vote":
		a.stamp, a.yes, a.e = t.Vote(c.tx, c.node, c.stamp)
	case "End":
		a.yes, a.e = t.End(c.tx, c.node)
	}
	return a
}

// scene is a table, what was done with it, and how many are in it by that.
type scene struct {
	*testing.T
	table   *coord.Table
	promise string
	done    []call
	count   int
}

// made is a scene of a table that was just made.
func made(t *testing.T) *scene { return &scene{T: t, table: coord.New(), promise: "P17.1"} }

// started is a scene of a table with one transaction.
func started(t *testing.T, tx, low uint64, shares ...coord.Share) *scene {
	t.Helper()
	s := made(t)
	s.starts(start(tx, low, shares...))
	return s
}

// story tells the last ones of the calls.
func (s *scene) story() string {
	l := []string{"New()"}
	for _, c := range s.done[max(0, len(s.done)-15):] {
		l = append(l, c.String())
	}
	return strings.Join(l, ", ")
}

// wrong tells what is wrong behind the calls.
func (s *scene) wrong(what string, a ...any) {
	s.Helper()
	s.Errorf("%s: behind %s: %s", s.promise, s.story(), fmt.Sprintf(what, a...))
}

// makes makes a call, and wants what it answers, and Len behind it; what it answers.
func (s *scene) makes(c call, want answer) answer {
	s.Helper()
	got := c.of(s.table)
	s.done = append(s.done, c)
	if got != want {
		s.wrong("the last answers %s; not %s", got, want)
	}
	switch {
	case want.e != api.OK:
	case c.name == "Start":
		s.count++
	case c.name == "End" && want.yes:
		s.count--
	}
	s.counts()
	return got
}

// counts wants Len, also when it is asked again.
func (s *scene) counts() {
	s.Helper()
	for range 2 {
		if is := s.table.Len(); is != s.count {
			s.wrong("Len answers %d, not %d", is, s.count)
		}
	}
}

// starts wants of each of these Starts that it has no error, and that the transaction is told then.
func (s *scene) starts(calls ...call) {
	s.Helper()
	for _, c := range calls {
		s.makes(c, answer{})
		s.tells(c.tx, c.shares...)
	}
}

// takes wants of each of these Votes and Ends that it has no error, and isn't the last one of its transaction.
func (s *scene) takes(calls ...call) {
	s.Helper()
	for _, c := range calls {
		s.makes(c, answer{})
	}
}

// decides wants that a Vote is the last one, and what the commit's stamp is.
func (s *scene) decides(stamp uint64, c call) {
	s.Helper()
	s.makes(c, answer{stamp, true, api.OK})
}

// goes wants that an End is the last one, and that the transaction isn't in any more.
func (s *scene) goes(c call) {
	s.Helper()
	s.makes(c, answer{0, true, api.OK})
	s.tells(c.tx)
}

// refuses wants the same error of each of these calls, and that its transaction is told behind it as ahead of it.
func (s *scene) refuses(e api.Errno, calls ...call) {
	s.Helper()
	for _, c := range calls {
		writes, nodes := s.table.Writes(c.tx), s.table.Nodes(c.tx)
		s.makes(c, answer{0, false, e})
		s.tellsJust(c.tx, writes, nodes)
	}
}

// tells wants what Writes and Nodes answer of a transaction that has these shares; without any: that isn't in.
func (s *scene) tells(tx uint64, shares ...coord.Share) {
	s.Helper()
	s.tellsJust(tx, versionsOf(shares), nodesOf(shares))
}

func (s *scene) tellsJust(tx uint64, writes []api.Ver, nodes []int) {
	s.Helper()
	for range 2 {
		if got := s.table.Writes(tx); !slices.Equal(got, writes) {
			s.wrong("Writes(%d) answers %s, not %s", tx, quoted(got), quoted(writes))
		}
		if got := s.table.Nodes(tx); !slices.Equal(got, nodes) {
			s.wrong("Nodes(%d) answers %v, not %v", tx, got, nodes)
		}
	}
}

// touches wants what Touches answers of a span, also when it is asked again.
func (s *scene) touches(want bool, lo, hi string) {
	s.Helper()
	for range 2 {
		if is := s.table.Touches(lo, hi); is != want {
			s.wrong("Touches(%.20q, %.20q) answers %t", lo, hi, is)
		}
	}
}

// votes votes for a transaction at all of these nodes, by the stamp, so that it is decided.
func (s *scene) votes(tx, stamp uint64, nodes ...int) {
	s.Helper()
	for _, node := range nodes[:len(nodes)-1] {
		s.takes(vote(tx, node, stamp))
	}
	s.decides(stamp, vote(tx, nodes[len(nodes)-1], stamp))
}

// ends ends a transaction at all of these nodes, so that it goes.
func (s *scene) ends(tx uint64, nodes ...int) {
	s.Helper()
	for _, node := range nodes[:len(nodes)-1] {
		s.takes(end(tx, node))
	}
	s.goes(end(tx, nodes[len(nodes)-1]))
}
