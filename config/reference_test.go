package config_test

import (
	"fmt"
	"slices"
	"strings"
	"testing"

	"confluence/api"
	"confluence/config"
	"confluence/span"
)

// plain is a second configuration: maps and modes stand under names.
type plain struct {
	pool, nodes int
	members     map[int]bool
	maps        map[int]api.Map
	modes       map[string]int
}

// names are the places', in their order.
func names() []string {
	l := []string{"warden"}
	for dc := range 4 {
		l = append(l, nameOf(dc, 0))
		for node := 1; node <= 4; node++ {
			l = append(l, nameOf(dc, node))
		}
	}
	return l
}

// nameOf is that of a gate (0) or of a node, as Switch counts them.
func nameOf(dc, node int) string {
	if node == 0 {
		return fmt.Sprint("gate of ", dc)
	}
	return fmt.Sprint("node ", node-1, " of ", dc)
}

// plainOf is a second configuration of what is in a first one.
func plainOf(s config.State) *plain {
	p := &plain{pool: s.Pool, nodes: s.Nodes, members: map[int]bool{}, maps: map[int]api.Map{}, modes: map[string]int{}}
	for dc := range 4 {
		p.maps[dc] = ownMap(s.Maps[dc])
		if s.Members[dc] {
			p.members[dc] = true
		}
	}
	for place, name := range names() {
		p.modes[name] = s.Modes[place]
	}
	return p
}

func (p *plain) state() config.State {
	s := config.State{Pool: p.pool, Nodes: p.nodes}
	for dc := range 4 {
		s.Members[dc] = p.members[dc]
		s.Maps[dc] = ownMap(p.maps[dc])
	}
	for place, name := range names() {
		s.Modes[place] = p.modes[name]
	}
	return s
}

func (p *plain) bothAtAll(dc int) {
	for node := range 5 {
		p.modes[nameOf(dc, node)] = 2
	}
}

// of does a command, if it may be done.
func (p *plain) of(c api.Cmd) api.Errno {
	if !slices.Contains([]int{1, 2, 3, 4, 5, 6}, c.Kind) {
		return api.ErrKind
	}
	if !slices.Contains([]int{0, 1, 2, 3}, c.DC) || c.DC >= p.pool {
		return api.ErrDC
	}
	if c.Kind == 1 {
		if p.members[c.DC] {
			return api.ErrThere
		}
		p.members[c.DC] = true
		p.maps[c.DC] = mapOf([]int{0})
		p.bothAtAll(c.DC)
		return api.OK
	}
	if !p.members[c.DC] {
		return api.ErrDC
	}
	switch c.Kind {
	case 2:
		if len(p.members) == 1 {
			return api.ErrLast
		}
		delete(p.members, c.DC)
		p.maps[c.DC] = api.Map{}
		p.bothAtAll(c.DC)
		return api.OK
	case 6:
		return p.switched(c)
	}
	return p.cut(c)
}

func (p *plain) switched(c api.Cmd) api.Errno {
	if c.Node < 0 || c.Node > p.nodes || c.Node >= 5 || c.Mode <= 0 || c.Mode >= 4 {
		return api.ErrArg
	}
	name := nameOf(c.DC, c.Node)
	was := p.modes[name]
	if was == c.Mode {
		return api.ErrThere
	}
	if was+c.Mode == 4 && was*c.Mode == 3 {
		return api.ErrWire
	}
	for _, mode := range p.modes {
		if c.Mode == 3 && mode == 1 || c.Mode == 1 && mode == 3 {
			return api.ErrWire
		}
	}
	p.modes[name] = c.Mode
	return api.OK
}

// cut does what a Split, a Merge or a Move says.
func (p *plain) cut(c api.Cmd) api.Errno {
	m := p.maps[c.DC]
	if e := span.Check(m, p.nodes); e != api.OK {
		return e
	}
	i := c.Shard
	if i < 0 || i >= len(m.Nodes) {
		return api.ErrNone
	}
	from, to := append([]string{""}, m.Cuts...)[i], append(slices.Clone(m.Cuts), "")[i]
	switch c.Kind {
	case 3:
		if len(c.Key) > 16 || c.Key <= from || to != "" && c.Key >= to {
			return api.ErrPoint
		}
		if len(m.Nodes) == 8 {
			return api.ErrFull
		}
		m.Cuts = slices.Sorted(slices.Values(append(slices.Clone(m.Cuts), c.Key)))
		m.Nodes = slices.Concat(m.Nodes[:i+1], m.Nodes[i:])
	case 4:
		if to == "" {
			return api.ErrNone
		}
		if m.Nodes[i] != m.Nodes[i+1] {
			return api.ErrAway
		}
		m.Cuts = slices.Concat(m.Cuts[:i], m.Cuts[i+1:])
		m.Nodes = slices.Concat(m.Nodes[:i], m.Nodes[i+1:])
	case 5:
		if c.Node < 0 || c.Node >= p.nodes {
			return api.ErrArg
		}
		if m.Nodes[i] == c.Node {
			return api.ErrThere
		}
		m.Nodes = slices.Clone(m.Nodes)
		m.Nodes[i] = c.Node
	}
	p.maps[c.DC] = m
	return api.OK
}

func someKeys() []string {
	return []string{"", "\x00", "a", "b", "c", "d", "e", "f", "g", "h", "k", "m", "m\x00", "p", "t", "x", "z", "\x80", "\xff", strings.Repeat("\xff", 16), strings.Repeat("m", 17)}
}

// mostly is a number from 0 on and below a bound; now and then any other one.
func mostly(n *numbers, bound int) int {
	if n.below(15) == 0 {
		return one(n, ints())
	}
	return n.below(bound)
}

// anyCmd is mostly one that may be done, or nearly.
func anyCmd(n *numbers, s config.State) api.Cmd {
	c := api.Cmd{Kind: one(n, []int{1, 2, 3, 3, 3, 4, 4, 5, 5, 6, 6, 6, 6}), DC: n.below(4)}
	if n.below(25) == 0 {
		c.Kind = one(n, ints())
	}
	if s.Pool >= 1 && s.Pool < 4 && n.below(3) > 0 {
		c.DC = n.below(s.Pool)
	}
	if n.below(25) == 0 {
		c.DC = one(n, ints())
	}
	shards := 1
	if c.DC >= 0 && c.DC < 4 {
		shards = 1 + len(s.Maps[c.DC].Cuts)
	}
	c.Shard, c.Node, c.Mode, c.Key = mostly(n, shards), mostly(n, 5), mostly(n, 4), one(n, someKeys())
	if s.Nodes >= 1 && s.Nodes <= 4 && n.below(3) > 0 {
		c.Node = n.below(s.Nodes + 1)
	}
	if c.Kind == 3 && c.DC >= 0 && c.DC < 4 && n.below(4) > 0 {
		c.Shard = span.Find(s.Maps[c.DC], c.Key)
	}
	return c
}

// walker goes with a configuration and a plain one from command to command.
type walker struct {
	*testing.T
	state config.State
	p     *plain
	start string
	done  []string
	count map[string]int
}

func newWalker(t *testing.T, s config.State, start string, count map[string]int) *walker {
	return &walker{T: t, state: s, p: plainOf(s), start: start, count: count}
}

// goes does a command with both, and wants the same of them. What is refused leaves them where they are.
func (w *walker) goes(c api.Cmd) {
	w.Helper()
	was := own(w.state)
	w.done = append(w.done, tellCmd(c))
	want := w.p.of(c)
	next, e := config.Apply(w.state, c)
	w.count[fmt.Sprint(min(max(c.Kind, 0), 7), " ", int(want))]++
	is := next
	if want != api.OK {
		is = was
		if !same(next, config.State{}) {
			w.Errorf("R5: behind %s there is %s beside error %d", w.story(), told(next), int(e))
		}
	}
	if e != want || !same(is, w.p.state()) {
		w.Errorf("P18.1: behind %s the configuration is %s with error %d, not %s with error %d", w.story(), told(is), int(e), told(w.p.state()), int(want))
	}
	if !same(w.state, was) {
		w.Errorf("P18.4: behind %s what was handed in is %s, not %s", w.story(), told(w.state), told(was))
	}
	if config.Count(is) != len(w.p.members) {
		w.Errorf("P18.1: behind %s Count is %d, not %d", w.story(), config.Count(is), len(w.p.members))
	}
	w.state = is
}

func (w *walker) story() string {
	return strings.Join(append([]string{w.start}, w.done[max(0, len(w.done)-12):]...), ", ")
}

// longRuns goes on from beginnings of all kinds; behind is told each configuration.
func longRuns(t *testing.T, n numbers, runs, steps int, behind func(w *walker)) map[string]int {
	t.Helper()
	count := map[string]int{}
	for range runs {
		pool, nodes := 1+n.below(4), 1+n.below(4)
		members := 1 + n.below(pool)
		w := newWalker(t, started(t, pool, members, nodes), fmt.Sprintf("Start(%d, %d, %d)", pool, members, nodes), count)
		behind(w)
		for range steps {
			w.goes(anyCmd(&n, w.state))
			behind(w)
			if t.Failed() {
				return count
			}
		}
	}
	return count
}

// wantSeen wants that each kind was answered with each error that it may have.
func wantSeen(t *testing.T, count map[string]int, least int) {
	t.Helper()
	for kind, l := range [][]api.Errno{
		{api.ErrKind},
		{api.OK, api.ErrDC, api.ErrThere},
		{api.OK, api.ErrDC, api.ErrLast},
		{api.OK, api.ErrDC, api.ErrNone, api.ErrPoint, api.ErrFull},
		{api.OK, api.ErrDC, api.ErrNone, api.ErrAway},
		{api.OK, api.ErrDC, api.ErrNone, api.ErrArg, api.ErrThere},
		{api.OK, api.ErrDC, api.ErrArg, api.ErrThere, api.ErrWire},
		{api.ErrKind},
	} {
		for _, e := range l {
			if what := fmt.Sprint(kind, " ", int(e)); count[what] < least {
				t.Errorf("P18.1: in long runs but %d commands of kind %d had error %d", count[what], kind, int(e))
			}
		}
	}
}

func TestLongRunsOfCommands(t *testing.T) {
	wantSeen(t, longRuns(t, 181, 300, 300, func(w *walker) {}), 100)
}

func TestOneVeryLongRun(t *testing.T) {
	wantSeen(t, longRuns(t, 182, 3, 20000, func(w *walker) {}), 20)
}

// anyState is a configuration of any numbers, right or not.
func anyState(n *numbers) config.State {
	s := config.State{Pool: 1 + mostly(n, 4), Nodes: 1 + mostly(n, 4)}
	for dc := range 4 {
		s.Members[dc] = n.below(3) > 0
		if s.Members[dc] || n.below(4) == 0 {
			s.Maps[dc] = one(n, anyMaps())
		}
	}
	kinds := one(n, [][]int{{2}, {1, 2}, {2, 3}, {1, 2, 3}, modes(), {2, 4, 0}})
	for place := range 21 {
		s.Modes[place] = one(n, kinds)
	}
	return s
}

// Short runs from configurations that no commands lead to.
func TestRunsFromAnyConfigurations(t *testing.T) {
	n, count := numbers(183), map[string]int{}
	for range 10000 {
		s := anyState(&n)
		w := newWalker(t, s, told(s), count)
		for range 8 {
			w.goes(anyCmd(&n, w.state))
		}
		if t.Failed() {
			return
		}
	}
	for _, what := range []string{"3 1", "3 3", "3 6", "3 9", "4 1", "4 3", "4 6", "4 9", "5 1", "5 3", "5 6", "5 9", "6 0", "6 1", "6 8", "6 15"} {
		if count[what] < 50 {
			t.Errorf("P18.1: of any configurations but %d commands had kind and error %s", count[what], what)
		}
	}
}

// fewCmds are commands of two datacenters, of which all short rows are tried.
func fewCmds() []api.Cmd {
	return []api.Cmd{adding(0), adding(1), removing(0), removing(1), splitting(0, 0, "m"), merging(0, 0), moving(0, 0, 1), moving(0, 1, 1), switching(0, 0, 2), switching(0, 1, 2), switching(0, 0, 3), switching(0, 1, 1), switching(1, 0, 1), switching(1, 0, 3)}
}

// All rows of four of them, from two beginnings.
func TestAllShortRowsOfCommands(t *testing.T) {
	one, two := started(t, 2, 1, 1), started(t, 2, 2, 2)
	l, count := fewCmds(), map[string]int{}
	for i := range len(l) * len(l) * len(l) * len(l) {
		a, b := newWalker(t, one, "Start(2, 1, 1)", count), newWalker(t, two, "Start(2, 2, 2)", count)
		for k := i; len(a.done) < 4; k /= len(l) {
			a.goes(l[k%len(l)])
			b.goes(l[k%len(l)])
		}
		if t.Failed() {
			return
		}
	}
}
