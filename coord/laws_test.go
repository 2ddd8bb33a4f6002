package coord_test

import (
	"slices"
	"testing"

	"confluence/api"
	"confluence/coord"
	"confluence/span"
)

// life is what a test sees of a transaction from its Start on.
type life struct {
	low           uint64
	votes         []uint64
	nodes         int
	decided, gone int
}

// lives follow what the table answers to each call of a walker.
func lives(w *walker) map[uint64]*life {
	l := map[uint64]*life{}
	w.behind = func(c call, a answer) {
		if a.e != api.OK {
			return
		}
		switch c.name {
		case "Start":
			l[c.tx] = &life{low: c.stamp, nodes: len(c.shares)}
		case "Vote":
			is := l[c.tx]
			is.votes = append(is.votes, c.stamp)
			if a.yes {
				is.decided++
			}
		case "End":
			if a.yes {
				l[c.tx].gone++
			}
		}
	}
	return l
}

// In long runs, with several transactions at once: a commit's stamp is above low, not below any vote, and one of them.
func TestTheStampIsOneOfTheVotes(t *testing.T) {
	count := map[int]int{}
	longRuns(t, 51, 400, 150, func(w *walker) {
		w.promise = "P17.2"
		l := lives(w)
		follow := w.behind
		w.behind = func(c call, a answer) {
			follow(c, a)
			if c.name != "Vote" || !a.yes {
				return
			}
			is := l[c.tx]
			count[len(is.votes)]++
			if a.stamp <= is.low || !slices.Contains(is.votes, a.stamp) || slices.Max(is.votes) > a.stamp {
				w.wrong("it is to be committed at %d; low is %d, and the votes are %v", a.stamp, is.low, is.votes)
			}
		}
	})
	for votes := 1; votes <= 4; votes++ {
		if count[votes] < 300 {
			t.Errorf("P17.2: in long runs few transactions are decided by %d votes: %v", votes, count)
		}
	}
}

// Of all ballots of few stamps, in all orders, with votes in between that are refused.
func TestTheStampOfAllBallots(t *testing.T) {
	for i := range 5 * 5 * 5 {
		ballot := []uint64{uint64(4 + i%5), uint64(4 + i/5%5), uint64(4 + i/25)}
		orders([]int{0, 1, 2}, func(nodes []int) {
			s, stamp, yeses := started(t, 3, 5, at(2, 0, 1)...), uint64(0), 0
			for _, node := range append(nodes, nodes...) {
				got, yes, e := s.table.Vote(3, node, ballot[node])
				s.done = append(s.done, vote(3, node, ballot[node]))
				if yes {
					stamp, yeses = got, yeses+1
				}
				if (e == api.OK) != (ballot[node] > 5 && len(s.done) <= 4) {
					s.wrong("the last has error %d", int(e))
				}
			}
			decided := slices.Min(ballot) > 5
			if decided != (yeses == 1) || decided && stamp != slices.Max(ballot) {
				s.wrong("P17.2: %d times it is decided, at last at %d; the votes are %v above 5", yeses, stamp, ballot)
			}
		})
	}
}

// In long runs, with several transactions at once: each is decided once and goes once, by the last vote and by an End behind it.
func TestDecidedOnceAndGoneOnce(t *testing.T) {
	again, gone := 0, 0
	longRuns(t, 52, 400, 150, func(w *walker) {
		w.promise = "P17.3"
		l := lives(w)
		follow := w.behind
		w.behind = func(c call, a answer) {
			if c.name == "Start" && a.e == api.OK && l[c.tx] != nil {
				again++
				if l[c.tx].gone != 1 {
					w.wrong("it is started again, and went %d times", l[c.tx].gone)
				}
			}
			follow(c, a)
			is := l[c.tx]
			if is == nil {
				return
			}
			if is.decided > 1 || is.gone > is.decided || (is.decided == 1) != (len(is.votes) == is.nodes) {
				w.wrong("with %d votes of %d it is decided %d times, and went %d times", len(is.votes), is.nodes, is.decided, is.gone)
			}
			if in := len(w.table.Nodes(c.tx)) > 0; in != (is.gone == 0) {
				w.wrong("it went %d times, and %d nodes are told", is.gone, len(w.table.Nodes(c.tx)))
			}
			if c.name == "End" && a.yes {
				gone++
			}
		}
	})
	if gone < 2000 || again < 1500 {
		t.Errorf("P17.3: in long runs but %d transactions go, and %d are started again", gone, again)
	}
}

// tally makes calls that may be refused, and counts how often one says yes.
func tally(s *scene, calls ...call) (decided, gone int) {
	for _, c := range calls {
		a := c.of(s.table)
		s.done = append(s.done, c)
		if a.yes && c.name == "Vote" {
			decided++
		}
		if a.yes && c.name == "End" {
			gone++
		}
	}
	return decided, gone
}

// All rows of seven of the calls of a transaction of two nodes, whatever is doubled, late or early in them.
func TestAllRowsOfVotesAndEnds(t *testing.T) {
	l := []call{vote(7, 0, 6), vote(7, 1, 8), end(7, 0), end(7, 1)}
	for i := range 1 << 14 {
		var row []call
		for k := range 7 {
			row = append(row, l[i>>(2*k)&3])
		}
		s := made(t)
		s.promise = "P17.3"
		for range 2 {
			s.starts(start(7, 5, at(0, 1)...))
			decided, gone := tally(s, row...)
			moreDecided, moreGone := tally(s, l...)
			if decided+moreDecided != 1 || gone+moreGone != 1 || s.table.Len() != 0 {
				s.wrong("it is decided %d and %d times, goes %d and %d times, and Len answers %d", decided, moreDecided, gone, moreGone, s.table.Len())
			}
			s.count = 0
			s.refuses(api.ErrNone, l...)
		}
		if t.Failed() {
			return
		}
	}
}

// All orders of the calls of three nodes; what was refused comes again till all is over.
func TestAllOrdersOfVotesAndEnds(t *testing.T) {
	orders([]call{vote(7, 0, 6), vote(7, 1, 8), vote(7, 2, 7), end(7, 0), end(7, 1), end(7, 2)}, func(row []call) {
		s := started(t, 7, 5, at(1, 2, 0)...)
		s.promise = "P17.3"
		s.starts(start(8, 5, at(0, 1, 2)...))
		decided, gone := tally(s, row...)
		moreDecided, moreGone := tally(s, row...)
		if decided != 1 || moreDecided != 0 || gone+moreGone != 1 {
			s.wrong("it is decided %d and %d times, and goes %d and %d times", decided, moreDecided, gone, moreGone)
		}
		s.count = 1
		s.refuses(api.ErrNone, row...)
		s.tells(8, at(0, 1, 2)...)
		s.refuses(api.ErrWait, end(8, 0))
		s.starts(start(7, 9, at(3)...))
		s.refuses(api.ErrAway, row...)
	})
}

// Several transactions at once, whose calls come in any order, each of them now and then again.
func TestManyAtOnceAreDecidedOnceAndGoOnce(t *testing.T) {
	n := numbers(53)
	for range 150 {
		s := made(t)
		s.promise = "P17.3"
		var calls []call
		for tx := range uint64(8) {
			nodes := shuffled(&n, []int{0, 1, 2, 3})[:1+n.below(4)]
			s.starts(start(tx, 5, at(nodes...)...))
			for _, node := range nodes {
				calls = append(calls, vote(tx, node, 6+uint64(n.below(4))), end(tx, node), end(tx, node))
			}
		}
		decided, gone := 0, 0
		for range 12 {
			d, g := tally(s, shuffled(&n, calls)...)
			decided, gone = decided+d, gone+g
		}
		if decided != 8 || gone != 8 || s.table.Len() != 0 {
			s.wrong("of 8 transactions %d are decided, %d go, and Len answers %d", decided, gone, s.table.Len())
		}
	}
}

// rightMap is a map that is right over four nodes.
func rightMap(n *numbers) api.Map {
	var m api.Map
	for _, key := range append(strange()[1:18], "c", "d", "n") {
		if len(m.Cuts) < 7 && n.below(4) == 0 {
			m.Cuts = append(m.Cuts, key)
		}
	}
	slices.Sort(m.Cuts)
	for range len(m.Cuts) + 1 {
		m.Nodes = append(m.Nodes, n.below(4))
	}
	return m
}

// ownerOf is the node of the shard, among all of a right map, whose span has a key.
func ownerOf(m api.Map, key string) int {
	for i, cut := range m.Cuts {
		if key < cut {
			return m.Nodes[i]
		}
	}
	return m.Nodes[len(m.Cuts)]
}

// wantParted wants that each write, which tells its place, is in just one share, that of its owner, and that there is nothing else.
func wantParted(t *testing.T, m api.Map, writes []api.Ver, shares []coord.Share) {
	t.Helper()
	count := make([]int, len(writes))
	for i, s := range shares {
		if i > 0 && s.Node <= shares[i-1].Node || len(s.Vers) == 0 {
			t.Errorf("P17.4: share %d of %d has node %d and %d versions", i, len(shares), s.Node, len(s.Vers))
		}
		for k, v := range s.Vers {
			if v != writes[v.Tx] || k > 0 && v.Tx <= s.Vers[k-1].Tx {
				t.Errorf("P17.4: of node %d version %d is %s", s.Node, k, quoted([]api.Ver{v}))
			}
			if is := ownerOf(m, v.Key); is != s.Node {
				t.Errorf("P17.4: by cuts %.20q, nodes %v the key %.20q is at %d, not at %d", m.Cuts, m.Nodes, v.Key, s.Node, is)
			}
			count[v.Tx]++
		}
	}
	for i, is := range count {
		if is != 1 {
			t.Errorf("P17.4: by cuts %.20q, nodes %v write %d is in %d shares", m.Cuts, m.Nodes, i, is)
		}
	}
}

func TestSharesPartTheWrites(t *testing.T) {
	n, sizes := numbers(54), map[int]int{}
	for range 20000 {
		m, writes := rightMap(&n), anyWrites(&n, 14)
		if e := span.Check(m, 4); e != api.OK {
			t.Fatalf("a test's map isn't right: cuts %.20q, nodes %v have error %d", m.Cuts, m.Nodes, int(e))
		}
		wantParted(t, m, writes, coord.Shares(m, writes))
		sizes[len(m.Nodes)]++
		if t.Failed() {
			return
		}
	}
	for shards := 1; shards <= 8; shards++ {
		if sizes[shards] < 50 {
			t.Errorf("P17.4: of right maps there are few with %d shards: %v", shards, sizes)
		}
	}
}

// Maps that are made by Split, Merge and Move of one shard.
func TestSharesOfMapsThatChange(t *testing.T) {
	n := numbers(55)
	for range 60 {
		m := span.Whole(n.below(4))
		for range 60 {
			var changed api.Map
			var e api.Errno
			switch i := n.below(8); n.below(3) {
			case 0:
				changed, e = span.Split(m, 4, i, one(&n, strange()))
			case 1:
				changed, e = span.Merge(m, 4, i)
			case 2:
				changed, e = span.Move(m, 4, i, n.below(4))
			}
			if e == api.OK {
				m = changed
			}
			writes := anyWrites(&n, 14)
			wantParted(t, m, writes, coord.Shares(m, writes))
		}
	}
}

// In long runs, with several transactions at once that were started with the shares of a right map: what is told of one is what it writes, each at its owner.
func TestWhatIsStartedWithSharesIsParted(t *testing.T) {
	told := 0
	longRuns(t, 56, 200, 150, func(w *walker) {
		var m api.Map
		var writes []api.Ver
		w.promise = "P17.4"
		w.shares = func(n *numbers) []coord.Share {
			m, writes = rightMap(n), anyWrites(n, 8)
			return coord.Shares(m, writes)
		}
		w.behind = func(c call, a answer) {
			if c.name != "Start" || a.e != api.OK {
				return
			}
			told++
			var shares []coord.Share
			l := w.table.Writes(c.tx)
			for _, node := range w.table.Nodes(c.tx) {
				count := 0
				for count < len(l) && ownerOf(m, l[count].Key) == node {
					count++
				}
				shares = append(shares, share(node, l[:count]...))
				l = l[count:]
			}
			if len(l) > 0 {
				w.wrong("Writes(%d) has %s at other nodes than Nodes", c.tx, quoted(l))
			}
			wantParted(w.T, m, writes, shares)
		}
	})
	if told < 2000 {
		t.Errorf("P17.4: in long runs but %d transactions are started", told)
	}
}
