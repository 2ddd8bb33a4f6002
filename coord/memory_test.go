package coord_test

import (
	"fmt"
	"runtime"
	"slices"
	"strings"
	"testing"

	"confluence/api"
	"confluence/coord"
)

// room is a list of shares that stands in the midst of others, with spare room behind them; its versions stand so too.
type room struct {
	shares []coord.Share
	vers   [][]api.Ver
	handed []coord.Share
}

// versionsInRoom are these versions in the midst of others; and all of that room.
func versionsInRoom(l []api.Ver) (handed, all []api.Ver) {
	all = append(keyed("room", "ahead"), l...)
	all = append(all, keyed("room", "behind", "", "spare")...)
	return all[2 : 2+len(l)], all
}

func inRoom(shares []coord.Share) room {
	r := room{shares: at(-7, -8)}
	for _, s := range shares {
		handed, all := versionsInRoom(s.Vers)
		r.vers = append(r.vers, all)
		r.shares = append(r.shares, share(s.Node, handed...))
	}
	r.shares = append(r.shares, at(-9, -10, -11)...)
	r.handed = r.shares[2 : 2+len(shares)]
	return r
}

// wantAs wants that a room is as it was made of these shares.
func (r room) wantAs(t *testing.T, call string, shares []coord.Share) {
	t.Helper()
	was := inRoom(shares)
	if !slices.EqualFunc(r.shares, was.shares, isSame) || !slices.EqualFunc(r.vers, was.vers, slices.Equal[[]api.Ver]) {
		t.Errorf("R3: behind %s of %s what was handed in, with what is around it, is %s with %v", call, told(shares), told(r.shares), r.vers)
	}
}

// spoil overwrites a room with all that is in it.
func (r room) spoil() {
	for _, l := range r.vers {
		spoil(l)
	}
	spoilShares(r.shares)
}

// spoil overwrites versions with their spare room.
func spoil(l []api.Ver) {
	l = l[:cap(l)]
	for i := range l {
		l[i] = api.Ver{Key: "spoilt", Val: l[i].Key, TS: 5000 - l[i].TS, Tx: i}
	}
}

func spoilShares(l []coord.Share) {
	for i := range l[:cap(l)] {
		l[:cap(l)][i] = share(50+i, version("spoilt", "too"))
	}
}

// grow puts something into the spare room of a list.
func grow[E any](l []E) {
	var more [10]E
	_ = append(l, more[:]...)
}

// some are lists of shares: of one and of many, with versions and without.
func some() [][]coord.Share {
	return [][]coord.Share{at(0), at(2, 0, 3), {share(1)}, {share(0), share(3, keyed("a", "b", "a")...), share(-1)}, {share(3, strangeVersions()...), share(1, keyed(strange()...)...)}, at(places()...)}
}

// What is handed in to Start stays, also where it is refused; its spare room too.
func TestWhatIsStartedStays(t *testing.T) {
	for _, shares := range append(some(), at(1, 2, 1), at(3, 3)) {
		r := inRoom(shares)
		var none *coord.Table
		none.Start(1, 0, r.handed)
		table := coord.New()
		table.Start(1, 0, r.handed[:0])
		for tx := range uint64(3) {
			table.Start(tx, 0, r.handed)
			table.Start(tx, 5, r.handed)
			for _, s := range shares {
				table.Vote(tx, s.Node, 9)
			}
			spoil(table.Writes(tx))
			grow(table.Nodes(tx))
			for _, s := range shares {
				table.End(tx, s.Node)
			}
		}
		r.wantAs(t, "Start", shares)
	}
}

// What is handed in to Shares stays, and what it answers has nothing of it.
func TestSharesAreNewMemory(t *testing.T) {
	n := numbers(61)
	for range 3000 {
		m, l := rightMap(&n), anyWrites(&n, 10)
		writes, all := versionsInRoom(l)
		cuts, nodes := append(slices.Clone(m.Cuts), "spare", "room"), append(slices.Clone(m.Nodes), 1, 2)
		handed := mapOf(nodes[:len(m.Nodes)], cuts[:len(m.Cuts)]...)
		want := plainShares(m, l)
		one, other := coord.Shares(handed, writes), coord.Shares(handed, writes)
		for _, s := range one {
			grow(s.Vers)
			if !slices.EqualFunc(one, want, isSame) {
				t.Errorf("R3: with the versions of a share grown, all of them are %s, not %s", told(one), told(want))
			}
		}
		for i, s := range one {
			spoil(s.Vers)
			if !slices.EqualFunc(one[i+1:], want[i+1:], isSame) {
				t.Errorf("R3: with the versions of a share changed, the others are %s, not %s", told(one[i+1:]), told(want[i+1:]))
			}
		}
		grow(one)
		spoilShares(one)
		if _, was := versionsInRoom(l); !slices.Equal(all, was) || !slices.Equal(cuts, append(slices.Clone(m.Cuts), "spare", "room")) || !slices.Equal(nodes, append(slices.Clone(m.Nodes), 1, 2)) {
			t.Errorf("R3: behind Shares, and with its answer changed, what was handed in is %s, cuts %q, nodes %v", quoted(all), cuts, nodes)
		}
		spoil(all)
		clear(cuts)
		clear(nodes)
		if !slices.EqualFunc(other, want, isSame) {
			t.Errorf("R3: with what was handed in changed, and another answer, Shares answered %s, not %s", told(other), told(want))
		}
		if t.Failed() {
			return
		}
	}
}

// With what was handed in changed behind the call, all goes on as it was.
func TestWhatIsStartedIsNotKept(t *testing.T) {
	for _, shares := range some() {
		s, r := made(t), inRoom(shares)
		s.promise = "R3"
		s.makes(start(4, 5, r.handed...), answer{})
		again := inRoom(shares)
		s.table.Start(5, 5, again.handed)
		s.count++
		r.spoil()
		again.spoil()
		s.done = []call{start(4, 5, shares...), start(5, 5, shares...)}
		for _, tx := range []uint64{4, 5} {
			s.tells(tx, shares...)
			s.refuses(api.ErrAway, vote(tx, 50, 9), vote(tx, 52, 9))
		}
		s.touches(touched(versionsOf(shares), "spoilt", "spoilu"), "spoilt", "spoilu")
		for _, tx := range []uint64{4, 5} {
			s.votes(tx, 6, nodesOf(shares)...)
			s.tells(tx, shares...)
			s.touches(touched(versionsOf(shares), "", ""), "", "")
			s.ends(tx, nodesOf(shares)...)
		}
	}
}

// One list of versions that stands in several shares, and one list of shares that several transactions are started with, isn't shared by what is kept.
func TestOneListOfSeveralShares(t *testing.T) {
	l := keyed("a", "b", "c", "d")
	shares := []coord.Share{share(2, l...), share(0, l[:2]...), share(1, l[1:]...)}
	want := own(shares)
	s := made(t)
	s.promise = "R3"
	s.starts(start(1, 0, shares...), start(2, 0, shares[1:]...), start(3, 0, shares[:2]...))
	s.done = nil
	spoil(l)
	spoilShares(shares)
	s.tells(1, want...)
	s.tells(2, want[1:]...)
	s.tells(3, want[:2]...)
	s.touches(false, "e", "")
}

// What Writes and Nodes answer is new memory each time: changed, it changes nothing of the table, and nothing of another answer.
func TestWhatIsToldIsNewMemory(t *testing.T) {
	for _, shares := range some() {
		s := started(t, 1, 5, shares...)
		s.promise = "R3"
		s.starts(start(2, 5, shares...))
		writes, nodes := s.table.Writes(1), s.table.Nodes(1)
		for _, tx := range []uint64{1, 2, 1} {
			otherWrites, otherNodes := s.table.Writes(tx), s.table.Nodes(tx)
			grow(otherWrites)
			grow(otherNodes)
			spoil(otherWrites)
			clear(otherNodes[:cap(otherNodes)])
			if !slices.Equal(writes, versionsOf(shares)) || !slices.Equal(nodes, nodesOf(shares)) {
				s.wrong("with other answers changed, Writes(1) and Nodes(1) answered %s, %v; not %s, %v", quoted(writes), nodes, quoted(versionsOf(shares)), nodesOf(shares))
			}
			s.tells(1, shares...)
			s.tells(2, shares...)
		}
		s.touches(touched(versionsOf(shares), "spoilt", "spoilu"), "spoilt", "spoilu")
		s.votes(1, 6, nodesOf(shares)...)
		s.ends(1, nodesOf(shares)...)
		s.tells(2, shares...)
	}
}

// What was told stays, whatever becomes of the table.
func TestWhatWasToldStays(t *testing.T) {
	for _, shares := range some() {
		s := started(t, 1, 5, shares...)
		writes, nodes := s.table.Writes(1), s.table.Nodes(1)
		s.starts(start(2, 5, at(3, 2, 1)...))
		s.votes(1, 6, nodesOf(shares)...)
		s.ends(1, nodesOf(shares)...)
		s.starts(start(1, 5, at(3, 2, 1, 0)...))
		if !slices.Equal(writes, versionsOf(shares)) || !slices.Equal(nodes, nodesOf(shares)) {
			t.Errorf("R3: behind other calls Writes and Nodes answered %s, %v; not %s, %v", quoted(writes), nodes, quoted(versionsOf(shares)), nodesOf(shares))
		}
	}
}

// Nothing that is kept belongs to two tables, and no call of one changes another one.
func TestTablesAreApart(t *testing.T) {
	n := numbers(62)
	for range 60 {
		first, other := newWalker(t, map[string]int{}), newWalker(t, map[string]int{})
		first.promise, other.promise = "R2", "R2"
		for range 80 {
			first.wantSame(first.anyCall(&n))
			other.counts()
			other.wantSame(other.anyCall(&n))
			first.counts()
		}
		first.wantAllSame(&n)
		other.wantAllSame(&n)
		made(t).counts()
		if t.Failed() {
			return
		}
	}
}

// silent makes calls of a new table, that isn't asked in between, and wants the same answers.
func silent(t *testing.T, promise string, calls []call, want []answer) *coord.Table {
	t.Helper()
	table := coord.New()
	for i, c := range calls {
		if got := c.of(table); got != want[i] {
			t.Errorf("%s: call %d of %d, %s, answers %s; not %s", promise, i, len(calls), c, got, want[i])
		}
	}
	return table
}

// The same calls answer the same again, whether a table is asked in between or not.
func TestTheSameCallsAnswerTheSame(t *testing.T) {
	n := numbers(63)
	for range 60 {
		w := newWalker(t, map[string]int{})
		w.promise = "R2"
		var calls []call
		var answers []answer
		w.behind = func(c call, a answer) { calls, answers = append(calls, c), append(answers, a) }
		for range 100 {
			w.wantSame(w.anyCall(&n))
		}
		for range 5 {
			w.table = silent(t, "R2", calls, answers)
			w.wantAllSame(&n)
		}
		if t.Failed() {
			return
		}
	}
}

// A call that has an error has changed nothing that a later call can tell: without them all answers are the same.
func TestErrorsChangeNothing(t *testing.T) {
	n, refused := numbers(64), 0
	for range 200 {
		w := newWalker(t, map[string]int{})
		w.promise = "R6"
		var calls []call
		var answers []answer
		w.behind = func(c call, a answer) {
			if a.e != api.OK {
				refused++
				return
			}
			calls, answers = append(calls, c), append(answers, a)
		}
		for range 100 {
			w.wantSame(w.anyCall(&n))
		}
		w.table = silent(t, "R6", calls, answers)
		w.wantAllSame(&n)
		w.behind = func(call, answer) {}
		for range 40 {
			w.wantSame(w.anyCall(&n))
		}
		if t.Failed() {
			return
		}
	}
	if refused < 6000 {
		t.Errorf("R6: in long runs but %d calls had an error", refused)
	}
}

// Behind each call that is refused all is as it was: what is told, and what is answered by each call that comes next.
func TestBehindARefusedCallAllIsAsItWas(t *testing.T) {
	ahead := []call{start(1, 5, at(0, 1)...), vote(1, 0, 8), start(2, 5, at(2)...), vote(2, 2, 9), start(7, 0, at(0, 3)...), vote(7, 3, 5), vote(7, 0, 2), end(7, 0)}
	next := []call{vote(1, 1, 7), end(7, 3), end(2, 2), end(1, 1), end(1, 0), start(7, 0, at(1)...), start(1, 0, at(0)...), vote(7, 1, 1), end(7, 1)}
	tried := 0
	for _, c := range strangeCalls() {
		table, other := coord.New(), coord.New()
		for _, first := range ahead {
			first.of(table)
			first.of(other)
		}
		if c.of(table).e == api.OK {
			continue
		}
		tried++
		for _, then := range append([]call{end(c.tx, 2)}, next...) {
			if got, want := then.of(table), then.of(other); got != want || !slices.Equal(table.Writes(then.tx), other.Writes(then.tx)) || !slices.Equal(table.Nodes(then.tx), other.Nodes(then.tx)) || table.Len() != other.Len() || table.Touches("", "") != other.Touches("", "") {
				t.Errorf("R6: behind %s, that is refused, %s answers %s; not %s", c, then, got, want)
			}
		}
	}
	if tried < 2000 {
		t.Errorf("R6: but %d calls were refused", tried)
	}
}

// heap is how many bytes are in use.
func heap() uint64 {
	runtime.GC()
	var m runtime.MemStats
	runtime.ReadMemStats(&m)
	return m.HeapAlloc
}

// wantLittleKept wants that a table hasn't got much more than there was ahead of it.
func wantLittleKept(t *testing.T, when string, before uint64) {
	t.Helper()
	if after := heap(); after > before+1<<19 {
		t.Errorf("rule 8 of the language: %s a table keeps %d bytes", when, after-before)
	}
}

// Of what has gone nothing is kept.
func TestOfWhatHasGoneNothingIsKept(t *testing.T) {
	table, shares := coord.New(), at(0, 1)
	shares[0].Vers = keyed(strange()...)
	before := heap()
	for tx := range uint64(50_000) {
		table.Start(tx, 5, shares)
		if tx < 4 {
			continue
		}
		old := tx - 4
		table.Vote(old, 0, 6)
		table.Vote(old, 1, 7)
		table.End(old, 0)
		if gone, e := table.End(old, 1); !gone || e != api.OK || table.Len() != 4 {
			t.Fatalf("P17.1: End(%d, 1) answers %t, %d, and Len %d behind it", old, gone, int(e), table.Len())
		}
	}
	wantLittleKept(t, "with all but 4 gone", before)
	runtime.KeepAlive(table)
}

// Long texts of which pieces came, and the room around the versions and shares, aren't asked for, and so aren't to be kept.
func TestNoMoreIsKeptThanIsNeeded(t *testing.T) {
	table := coord.New()
	before := heap()
	for tx := range uint64(40) {
		text := strings.Repeat(fmt.Sprintf("%02d", tx), 1<<19)
		vers, shares := make([]api.Ver, 5000), make([]coord.Share, 5000)
		vers[0] = api.Ver{Key: text[:4], Val: text[4:60]}
		shares[0], shares[1] = share(0, vers[:1]...), share(1)
		if e := table.Start(tx, 0, shares[:2]); e != api.OK {
			t.Fatalf("P17.1: Start(%d) has error %d", tx, int(e))
		}
	}
	wantLittleKept(t, "with pieces of long texts", before)
	for tx := range uint64(40) {
		for _, v := range table.Writes(tx) {
			if want := strings.Repeat(fmt.Sprintf("%02d", tx), 30); v.Key+v.Val != want {
				t.Errorf("P17.1: Writes(%d) has %s", tx, quoted([]api.Ver{v}))
			}
		}
	}
	runtime.KeepAlive(table)
}
