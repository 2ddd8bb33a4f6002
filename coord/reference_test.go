package coord_test

import (
	"fmt"
	"slices"
	"strings"
	"testing"

	"confluence/api"
	"confluence/coord"
)

// plain is a second table: it keeps all that was ever started, lets nothing go, and works all out when it is asked.
type plain []*passage

// passage is a transaction that was started, and all that was taken of it.
type passage struct {
	tx, low uint64
	shares  []coord.Share
	voted   []ballot
	ended   []int
}

type ballot struct {
	node  int
	stamp uint64
}

// decided tells whether each share's node has voted.
func (p *passage) decided() bool {
	for _, s := range p.shares {
		if !p.hasVoted(s.Node) {
			return false
		}
	}
	return true
}

// over tells whether each share's node has ended.
func (p *passage) over() bool {
	for _, s := range p.shares {
		if !slices.Contains(p.ended, s.Node) {
			return false
		}
	}
	return true
}

func (p *passage) has(node int) bool { return slices.Contains(nodesOf(p.shares), node) }

func (p *passage) hasVoted(node int) bool {
	for _, b := range p.voted {
		if b.node == node {
			return true
		}
	}
	return false
}

// greatest is the last of the stamps, once they are sorted.
func (p *passage) greatest() uint64 {
	var stamps []uint64
	for _, b := range p.voted {
		stamps = append(stamps, b.stamp)
	}
	slices.Sort(stamps)
	return stamps[len(stamps)-1]
}

// find is the one of this number that isn't over; nil: there is none.
func (p plain) find(tx uint64) *passage {
	for _, is := range p {
		if is.tx == tx && !is.over() {
			return is
		}
	}
	return nil
}

func (p plain) len() int {
	count := 0
	for _, is := range p {
		if !is.over() {
			count++
		}
	}
	return count
}

// sharesOf are those of a transaction that is in.
func (p plain) sharesOf(tx uint64) []coord.Share {
	if is := p.find(tx); is != nil {
		return is.shares
	}
	return nil
}

// touched tells whether one of the versions is of a key from lo on and below hi.
func touched(l []api.Ver, lo, hi string) bool {
	for _, v := range l {
		if strings.Compare(v.Key, lo) != -1 && (len(hi) == 0 || strings.Compare(v.Key, hi) == -1) {
			return true
		}
	}
	return false
}

func (p plain) touches(lo, hi string) bool {
	for _, is := range p {
		if !is.over() && touched(versionsOf(is.shares), lo, hi) {
			return true
		}
	}
	return false
}

func (p *plain) start(c call) answer {
	if len(c.shares) == 0 {
		return answer{e: api.ErrArg}
	}
	if p.find(c.tx) != nil {
		return answer{e: api.ErrThere}
	}
	for i, s := range c.shares {
		for _, other := range c.shares[:i] {
			if s.Node == other.Node {
				return answer{e: api.ErrForm}
			}
		}
	}
	*p = append(*p, &passage{tx: c.tx, low: c.stamp, shares: own(c.shares)})
	return answer{}
}

func (p *plain) vote(c call) answer {
	is := p.find(c.tx)
	if is == nil {
		return answer{e: api.ErrNone}
	}
	if !is.has(c.node) {
		return answer{e: api.ErrAway}
	}
	if is.hasVoted(c.node) {
		return answer{e: api.ErrThere}
	}
	if c.stamp <= is.low {
		return answer{e: api.ErrOld}
	}
	is.voted = append(is.voted, ballot{c.node, c.stamp})
	if is.decided() {
		return answer{stamp: is.greatest(), yes: true}
	}
	return answer{}
}

func (p *plain) end(c call) answer {
	is := p.find(c.tx)
	if is == nil {
		return answer{e: api.ErrNone}
	}
	if !is.has(c.node) {
		return answer{e: api.ErrAway}
	}
	if !is.decided() {
		return answer{e: api.ErrWait}
	}
	if slices.Contains(is.ended, c.node) {
		return answer{e: api.ErrThere}
	}
	is.ended = append(is.ended, c.node)
	return answer{yes: is.over()}
}

func (p *plain) of(c call) answer {
	switch c.name {
	case "Start":
		return p.start(c)
	case "Vote":
		return p.vote(c)
	}
	return p.end(c)
}

// walker goes with a table and a plain one from call to call.
type walker struct {
	*scene
	p     plain
	txs   []uint64
	count map[string]int
	// shares are those that a transaction is started with.
	shares func(n *numbers) []coord.Share
	// behind is told each call and what the table answers.
	behind func(c call, a answer)
}

// few are the transactions that long runs are of.
func few() []uint64 { return []uint64{0, 1, 2, 5, 1 << 33, latest - 1, latest} }

func newWalker(t *testing.T, count map[string]int) *walker {
	return &walker{scene: made(t), txs: few(), count: count, shares: anyShares, behind: func(call, answer) {}}
}

// anyShares are mostly some that may be started.
func anyShares(n *numbers) []coord.Share {
	nodes := shuffled(n, []int{0, 1, 2, 3})[:1+n.below(4)]
	switch n.below(12) {
	case 0:
		nodes = nil
	case 1:
		nodes = append(nodes, one(n, nodes))
	case 2:
		nodes = shuffled(n, places())[:1+n.below(4)]
	}
	var l []coord.Share
	for _, node := range nodes {
		l = append(l, share(node, anyWrites(n, 3)...))
	}
	return l
}

// oneOf is mostly a transaction that is in, or mostly one that isn't.
func (w *walker) oneOf(n *numbers, in bool) uint64 {
	for range n.below(6) {
		if tx := one(n, w.txs); (w.p.find(tx) != nil) == in {
			return tx
		}
	}
	return one(n, w.txs)
}

// node is mostly one that has a share of a transaction, and hasn't done yet what comes next.
func (w *walker) node(n *numbers, tx uint64) int {
	is := w.p.find(tx)
	switch {
	case n.below(20) == 0:
		return one(n, places())
	case is == nil || n.below(12) == 0:
		return n.below(4)
	}
	for range n.below(4) {
		node := one(n, is.shares).Node
		if !is.hasVoted(node) || is.decided() && !slices.Contains(is.ended, node) {
			return node
		}
	}
	return one(n, is.shares).Node
}

// stamp is mostly one that is a little above a transaction's low.
func (w *walker) stamp(n *numbers, tx uint64) uint64 {
	low := uint64(0)
	if is := w.p.find(tx); is != nil {
		low = is.low
	}
	switch n.below(12) {
	case 0:
		return one(n, moments())
	case 1, 2:
		return low - min(low, uint64(n.below(3)))
	}
	return low + min(latest-low, 1+uint64(n.below(6)))
}

func (w *walker) low(n *numbers) uint64 {
	if n.below(6) == 0 {
		return one(n, moments())
	}
	return uint64(n.below(20))
}

func (w *walker) anyCall(n *numbers) call {
	if n.below(5) == 0 {
		return start(w.oneOf(n, false), w.low(n), w.shares(n)...)
	}
	tx := w.oneOf(n, true)
	is := w.p.find(tx)
	if is != nil && is.decided() && n.below(6) > 0 || n.below(6) == 0 {
		return end(tx, w.node(n, tx))
	}
	return vote(tx, w.node(n, tx), w.stamp(n, tx))
}

// wantSame makes a call of both tables, and wants that they answer the same, and tell the same behind it.
func (w *walker) wantSame(c call) {
	w.Helper()
	want := w.p.of(c)
	got := w.makes(c, want)
	if is := w.table.Len(); is != w.p.len() {
		w.wrong("Len answers %d, not %d", is, w.p.len())
	}
	w.tells(c.tx, w.p.sharesOf(c.tx)...)
	w.count[fmt.Sprint(c.name, " ", int(want.e), " ", want.yes)]++
	w.behind(c, got)
}

// wantAllSame wants that both tables tell the same of all that may be asked.
func (w *walker) wantAllSame(n *numbers) {
	w.Helper()
	for _, tx := range w.txs {
		w.tells(tx, w.p.sharesOf(tx)...)
	}
	for range 6 {
		lo, hi := one(n, strange()), one(n, strange())
		want := w.p.touches(lo, hi)
		w.touches(want, lo, hi)
		w.count[fmt.Sprint("Touches ", want)]++
	}
}

// longRuns makes any calls of tables, held against the second one; the function makes each one ready.
func longRuns(t *testing.T, seed numbers, runs, calls int, ready func(w *walker)) map[string]int {
	t.Helper()
	count := map[string]int{}
	for range runs {
		w := newWalker(t, count)
		ready(w)
		for range calls {
			w.wantSame(w.anyCall(&seed))
			if t.Failed() {
				return count
			}
		}
		w.wantAllSame(&seed)
	}
	return count
}

func TestLongRunsOfCalls(t *testing.T) {
	n := numbers(43)
	count := longRuns(t, 41, 240, 150, func(w *walker) {
		w.behind = func(call, answer) { w.wantAllSame(&n) }
	})
	for _, what := range []string{"Start 0 false", "Start 1 false", "Start 3 false", "Start 8 false", "Vote 0 false", "Vote 0 true", "Vote 7 false", "Vote 8 false", "Vote 11 false", "Vote 18 false", "End 0 false", "End 0 true", "End 7 false", "End 8 false", "End 18 false", "End 19 false", "Touches true", "Touches false"} {
		if count[what] < 300 {
			t.Errorf("P17.1: in long runs few calls were as %s: %v", what, count)
		}
	}
}

// One table that goes on for long, with many transactions at once.
func TestOneVeryLongRun(t *testing.T) {
	n, w := numbers(42), newWalker(t, map[string]int{})
	for tx := range uint64(40) {
		w.txs = append(w.txs, tx<<tx)
	}
	for range 5000 {
		w.wantSame(w.anyCall(&n))
		if n.below(20) == 0 {
			w.wantAllSame(&n)
		}
		if t.Failed() {
			return
		}
	}
	if w.count["End 0 true"] < 100 {
		t.Errorf("P17.1: in a very long run but %d transactions go", w.count["End 0 true"])
	}
}

// fewCalls are calls of two transactions and two nodes, of which all short rows are tried.
func fewCalls() []call {
	return []call{
		start(1, 0, at(0)...), start(1, 5, at(1, 0)...), start(2, 5, at(0, 1)...), start(2, 0), start(1, 0, at(1, 1)...),
		vote(1, 0, 5), vote(1, 0, 9), vote(1, 1, 6), vote(2, 0, 7), vote(2, 1, 7),
		end(1, 0), end(1, 1), end(2, 0), end(2, 1),
	}
}

// wantRow wants that both tables answer the same to a row of calls.
func wantRow(t *testing.T, calls ...call) {
	t.Helper()
	w := newWalker(t, map[string]int{})
	w.txs = []uint64{1, 2}
	for _, c := range calls {
		w.wantSame(c)
	}
	for _, tx := range w.txs {
		w.tells(tx, w.p.sharesOf(tx)...)
	}
	for _, key := range []string{"k0", "k1"} {
		w.touches(w.p.touches(key, key+"a"), key, key+"a")
	}
}

// All rows of four of them, behind several beginnings.
func TestAllShortRowsOfCalls(t *testing.T) {
	l := fewCalls()
	for i := range len(l) * len(l) * len(l) * len(l) {
		row := []call{l[i%len(l)], l[i/len(l)%len(l)], l[i/len(l)/len(l)%len(l)], l[i/len(l)/len(l)/len(l)]}
		wantRow(t, row...)
		wantRow(t, append([]call{start(1, 5, at(1, 0)...), vote(1, 1, 8)}, row...)...)
		if i%3 == 0 {
			wantRow(t, append([]call{start(2, 5, at(0, 1)...), vote(2, 1, 8), start(1, 0, at(1)...), vote(1, 1, 1), vote(2, 0, 6), end(2, 1)}, row...)...)
		}
		if t.Failed() {
			return
		}
	}
}
