package config_test

import (
	"fmt"
	"math"
	"slices"
	"strings"
	"testing"

	"confluence/api"
	"confluence/config"
)

const (
	highest = math.MaxInt
	lowest  = math.MinInt
)

// numbers is a row of numbers that is the same each time.
type numbers uint64

func (n *numbers) next() uint64 {
	*n = *n*6364136223846793005 + 1442695040888963407
	x := uint64(*n)
	return (x ^ x>>29) * 0x9e3779b97f4a7c15
}

func (n *numbers) below(bound int) int { return int(n.next() >> 12 % uint64(bound)) }

// one is any of a list.
func one[E any](n *numbers, l []E) E { return l[n.below(len(l))] }

// far are numbers that are no datacenter's, no node's and no mode.
func far() []int {
	return []int{lowest, lowest + 1, -1 << 32, -7, -2, -1, 1 << 32, highest - 1, highest}
}

// ints are numbers at both ends and in the midst.
func ints() []int { return append(far(), 0, 1, 2, 3, 4, 5, 6, 7, 8, 20, 21, 255, 1<<32+1, 1<<32+2) }

// modes are all numbers that stand for one, and such as don't.
func modes() []int {
	return []int{1, 2, 3, 0, 4, 5, -1, -2, 256, 1<<32 + 1, 1<<32 + 3, lowest, highest}
}

// placesOf are a datacenter's places: its gate's, and those of its nodes.
func placesOf(dc int) [5]int {
	return [4][5]int{{1, 2, 3, 4, 5}, {6, 7, 8, 9, 10}, {11, 12, 13, 14, 15}, {16, 17, 18, 19, 20}}[dc]
}

// mapOf is a map with these nodes and cuts, right or not.
func mapOf(nodes []int, cuts ...string) api.Map { return api.Map{Cuts: cuts, Nodes: nodes} }

func sameMap(a, b api.Map) bool {
	return slices.Equal(a.Cuts, b.Cuts) && slices.Equal(a.Nodes, b.Nodes)
}

// ownMap is the same map in memory of the test's.
func ownMap(m api.Map) api.Map {
	var c api.Map
	c.Cuts = append(c.Cuts, m.Cuts...)
	c.Nodes = append(c.Nodes, m.Nodes...)
	return c
}

// lettered is a right map of so many shards, cut at b, d, f and so on, with the nodes 0 to nodes - 1 in turn.
func lettered(shards, nodes int) api.Map {
	var m api.Map
	for i := range shards {
		if i > 0 {
			m.Cuts = append(m.Cuts, string(rune('b'+2*(i-1))))
		}
		m.Nodes = append(m.Nodes, i%nodes)
	}
	return m
}

// wrongMaps are wrong whatever the nodes.
func wrongMaps() []api.Map {
	return []api.Map{
		{},
		mapOf(nil, "m"),
		mapOf([]int{0}, "m"),
		mapOf([]int{0, 1}),
		mapOf([]int{0, 1, 2}, "m"),
		mapOf([]int{0, 0, 0, 0, 0, 0, 0, 0, 0}, "a", "b", "c", "d", "e", "f", "g", "h"),
		mapOf([]int{0, 0}, ""),
		mapOf([]int{0, 0}, strings.Repeat("n", 17)),
		mapOf([]int{0, 0, 0}, "m", "m"),
		mapOf([]int{0, 0, 0}, "m", "c"),
		mapOf([]int{0, -1}, "m"),
		mapOf([]int{4, 0}, "m"),
		mapOf([]int{0, highest, lowest}, "c", "m"),
	}
}

// anyMaps are right over some nodes, or wrong.
func anyMaps() []api.Map {
	l := wrongMaps()
	for shards := 1; shards <= 8; shards++ {
		l = append(l, lettered(shards, 1), lettered(shards, 2), lettered(shards, 4))
	}
	return append(l, mapOf([]int{3}), mapOf([]int{1, 1, 0}, "\x00", "\xff"), mapOf([]int{2, 2}, strings.Repeat("\xff", 16)))
}

// same tells whether two configurations mean the same: a list of no elements is nil, or not.
func same(a, b config.State) bool {
	for dc := range a.Maps {
		if !sameMap(a.Maps[dc], b.Maps[dc]) {
			return false
		}
	}
	return a.Pool == b.Pool && a.Nodes == b.Nodes && a.Members == b.Members && a.Modes == b.Modes
}

// own is the same configuration in memory of the test's.
func own(s config.State) config.State {
	for dc, m := range s.Maps {
		s.Maps[dc] = ownMap(m)
	}
	return s
}

// told tells a configuration.
func told(s config.State) string {
	var b strings.Builder
	fmt.Fprintf(&b, "{pool %d, nodes %d, members", s.Pool, s.Nodes)
	for dc, is := range s.Members {
		if is {
			fmt.Fprint(&b, " ", dc)
		}
	}
	for dc, m := range s.Maps {
		if len(m.Cuts) > 0 || len(m.Nodes) > 0 {
			fmt.Fprintf(&b, ", map %d: %.20q %v", dc, m.Cuts, m.Nodes)
		}
	}
	fmt.Fprintf(&b, ", modes %d", s.Modes[0])
	for dc := range 4 {
		p := placesOf(dc)
		fmt.Fprintf(&b, " %v", s.Modes[p[0]:p[4]+1])
	}
	return b.String() + "}"
}

// change makes something of a configuration.
type change func(s *config.State)

// behind is a configuration in memory of the test's, changed.
func behind(s config.State, changes ...change) config.State {
	s = own(s)
	for _, c := range changes {
		c(&s)
	}
	return s
}

func isMember(is bool, dcs ...int) change {
	return func(s *config.State) {
		for _, dc := range dcs {
			s.Members[dc] = is
		}
	}
}

func hasMap(dc int, m api.Map) change { return func(s *config.State) { s.Maps[dc] = ownMap(m) } }

func hasNodes(nodes int) change { return func(s *config.State) { s.Nodes = nodes } }

func hasPool(pool int) change { return func(s *config.State) { s.Pool = pool } }

// speaks gives some places a mode.
func speaks(mode int, places ...int) change {
	return func(s *config.State) {
		for _, place := range places {
			s.Modes[place] = mode
		}
	}
}

// allSpeak gives all places of a datacenter a mode.
func allSpeak(mode, dc int) change {
	places := placesOf(dc)
	return speaks(mode, places[:]...)
}

// calm is a configuration of these members, each with the map of one shard at node 0, in which all places are Both.
func calm(pool, nodes int, members ...int) config.State {
	s := config.State{Pool: pool, Nodes: nodes}
	for place := range 21 {
		s.Modes[place] = 2
	}
	for _, dc := range members {
		s.Members[dc] = true
		s.Maps[dc] = mapOf([]int{0})
	}
	return s
}

// sets are all the ways to be members.
func sets() [][]int {
	var l [][]int
	for bits := range 16 {
		var set []int
		for dc := range 4 {
			if bits>>dc&1 == 1 {
				set = append(set, dc)
			}
		}
		l = append(l, set)
	}
	return l
}

// oddModes gives the places modes of which most are none.
func oddModes(s *config.State) {
	for place := range s.Modes {
		s.Modes[place] = modes()[place%len(modes())]
	}
}

// mixedModes makes places Elder while others are Newer.
func mixedModes(s *config.State) {
	for place := range s.Modes {
		s.Modes[place] = 1 + place%3
	}
}

// strangeStates are configurations of all kinds, most of which no commands lead to.
func strangeStates() []config.State {
	l := []config.State{
		{},
		calm(4, 4),
		calm(4, 4, 0, 1, 2, 3),
		calm(3, 2, 1),
		calm(2, 1, 0, 3),
		calm(1, 4, 2),
		calm(0, 0, 0, 1),
		calm(lowest, highest, 0, 1, 2, 3),
		calm(highest, lowest, 1, 2),
		calm(highest, highest, 0, 3),
		calm(5, 5, 0, 1, 2, 3),
		calm(-1, -1, 3),
		behind(calm(4, 2, 0, 2), mixedModes),
		behind(calm(4, 3, 1, 3), oddModes),
		behind(calm(4, 4, 0, 1), speaks(1, 0), speaks(3, 20)),
		behind(calm(2, 2, 0), speaks(3, 0, 16), allSpeak(1, 1)),
	}
	wrong := wrongMaps()
	for i := range wrong {
		s := calm(4, 1+i%4, i%4, (i+1)%4)
		for dc := range 4 {
			s.Maps[dc] = wrong[(i+dc)%len(wrong)]
		}
		l = append(l, s)
	}
	for shards := 1; shards <= 8; shards++ {
		l = append(l, behind(calm(4, 4, shards%4, 3), hasMap(0, lettered(shards, 4)), hasMap(1, lettered(9-shards, 2)), hasMap(2, lettered(shards, 1)), hasMap(3, lettered(shards, 3)), speaks(1, shards, 2*shards)))
	}
	return l
}

func tellCmd(c api.Cmd) string {
	return fmt.Sprintf("{kind %d, dc %d, shard %d, node %d, mode %d, key %.20q}", c.Kind, c.DC, c.Shard, c.Node, c.Mode, c.Key)
}

func adding(dc int) api.Cmd   { return api.Cmd{Kind: 1, DC: dc} }
func removing(dc int) api.Cmd { return api.Cmd{Kind: 2, DC: dc} }

func splitting(dc, shard int, key string) api.Cmd {
	return api.Cmd{Kind: 3, DC: dc, Shard: shard, Key: key}
}

func merging(dc, shard int) api.Cmd      { return api.Cmd{Kind: 4, DC: dc, Shard: shard} }
func moving(dc, shard, node int) api.Cmd { return api.Cmd{Kind: 5, DC: dc, Shard: shard, Node: node} }

func switching(dc, node, mode int) api.Cmd {
	return api.Cmd{Kind: 6, DC: dc, Node: node, Mode: mode}
}

// eachKind are commands for a datacenter, one of each kind.
func eachKind(dc int) []api.Cmd {
	return []api.Cmd{adding(dc), removing(dc), splitting(dc, 0, "c"), merging(dc, 0), moving(dc, 0, 1), switching(dc, 0, 1)}
}

// allCmds are commands of all kinds, with numbers and keys of all kinds.
func allCmds() []api.Cmd {
	var l []api.Cmd
	for _, dc := range []int{0, 1, 2, 3, 4, 5, -1, lowest, highest, 1 << 32} {
		l = append(l, adding(dc), removing(dc))
		for _, i := range []int{0, 1, 3, 7, 8, -1, lowest, highest} {
			for _, key := range []string{"", "a", "b", "m", "z", "\xff", strings.Repeat("z", 17)} {
				l = append(l, splitting(dc, i, key))
			}
			l = append(l, merging(dc, i))
			for _, node := range []int{0, 1, 2, 3, 4, 5, -1, lowest, highest} {
				l = append(l, moving(dc, i, node))
				if i < 5 {
					l = append(l, switching(dc, node, i))
				}
			}
		}
		for _, kind := range append(far(), 0, 7) {
			l = append(l, api.Cmd{Kind: kind, DC: dc, Key: "m"})
		}
	}
	return l
}

// used are the fields that a kind of command uses.
func used(kind int) string {
	switch kind {
	case 1, 2:
		return "Kind DC"
	case 3:
		return "Kind DC Shard Key"
	case 4:
		return "Kind DC Shard"
	case 5:
		return "Kind DC Shard Node"
	case 6:
		return "Kind DC Node Mode"
	}
	return "Kind DC"
}

// noisy is a command with something else in each field that its kind doesn't use.
func noisy(c api.Cmd, number int, text string) api.Cmd {
	for name, field := range map[string]*int{"Shard": &c.Shard, "Node": &c.Node, "Mode": &c.Mode} {
		if !strings.Contains(used(c.Kind), name) {
			*field = number
		}
	}
	if !strings.Contains(used(c.Kind), "Key") {
		c.Key = text
	}
	return c
}

// likes are commands that come to the same as one.
func likes(c api.Cmd) []api.Cmd {
	return []api.Cmd{noisy(c, 0, ""), noisy(c, 1, "m"), noisy(c, 3, "c"), noisy(c, -1, "\xff"), noisy(c, highest, strings.Repeat("k", 40)), noisy(c, lowest, "\x00"), config.Plain(c)}
}

// wantApply wants what Apply answers of a command, and of all that come to the same; and that what is handed in stays.
func wantApply(t *testing.T, s config.State, c api.Cmd, want config.State, wantE api.Errno) {
	t.Helper()
	was := own(s)
	got, e := config.Apply(s, c)
	if !same(got, want) || e != wantE {
		promise := "P18.1"
		if e != api.OK && e == wantE {
			promise = "R5"
		}
		t.Errorf("%s: Apply(%s, %s) is %s with error %d, not %s with error %d", promise, told(was), tellCmd(c), told(got), int(e), told(want), int(wantE))
	}
	for _, like := range likes(c) {
		if other, otherE := config.Apply(s, like); !same(other, want) || otherE != wantE {
			t.Errorf("P18.3: Apply(%s, %s) is %s with error %d; not %s with error %d", told(was), tellCmd(like), told(other), int(otherE), told(want), int(wantE))
		}
	}
	if !same(s, was) {
		t.Errorf("P18.4: Apply(%s, %s) makes %s of what is handed in", told(was), tellCmd(c), told(s))
	}
}

// wantChanged wants that a command has no error, and changes this alone; the configuration behind it.
func wantChanged(t *testing.T, s config.State, c api.Cmd, changes ...change) config.State {
	t.Helper()
	want := behind(s, changes...)
	wantApply(t, s, c, want, api.OK)
	return want
}

// wantRefused wants the same error of some commands.
func wantRefused(t *testing.T, s config.State, e api.Errno, cmds ...api.Cmd) {
	t.Helper()
	for _, c := range cmds {
		wantApply(t, s, c, config.State{}, e)
	}
}

// started is what Start answers.
func started(t *testing.T, pool, members, nodes int) config.State {
	t.Helper()
	s, e := config.Start(pool, members, nodes)
	if e != api.OK {
		t.Fatalf("P18.1: Start(%d, %d, %d) has error %d", pool, members, nodes, int(e))
	}
	return s
}
