package warden_test

import (
	"fmt"
	"math"
	"slices"
	"strings"

	"confluence/api"
	"confluence/config"
)

const (
	latest  = math.MaxUint64
	highest = math.MaxInt
	lowest  = math.MinInt
)

// numbers is a row of numbers that is the same each time.
type numbers uint64

func (n *numbers) next() uint64 {
	*n = *n*6364136223846793005 + 1442695040888963407
	x := uint64(*n)
	return (x ^ x>>29) * 0x9e3779b97f4a7c15
}

func (n *numbers) below(bound int) int { return int(n.next() >> 12 % uint64(bound)) }

// one is any of a list.
func one[E any](n *numbers, l []E) E { return l[n.below(len(l))] }

// shuffled are the same elements in any order.
func shuffled[E any](n *numbers, l []E) []E {
	l = slices.Clone(l)
	for i := range l {
		k := i + n.below(len(l)-i)
		l[i], l[k] = l[k], l[i]
	}
	return l
}

// orders calls with each order of a list.
func orders[E any](l []E, each func([]E)) {
	var choose func(chosen, left []E)
	choose = func(chosen, left []E) {
		if len(left) == 0 {
			each(chosen)
		}
		for i, e := range left {
			choose(append(slices.Clone(chosen), e), slices.Delete(slices.Clone(left), i, i+1))
		}
	}
	choose(nil, l)
}

// far are numbers that are no datacenter's, no node's and no mode.
func far() []int {
	return []int{lowest, lowest + 1, -1 << 32, -7, -2, -1, 1 << 32, highest - 1, highest}
}

// ints are numbers at both ends and in the midst.
func ints() []int { return append(far(), 0, 1, 2, 3, 4, 5, 6, 7, 8, 20, 21, 255, 1<<32+1, 1<<32+2) }

// moments are stamps at both ends and in the midst; they rise.
func moments() []uint64 {
	return []uint64{0, 1, 2, 5, 65535, 65536, 1 << 32, 1<<63 - 1, 1 << 63, latest - 1, latest}
}

// modes are all numbers that stand for one, and such as don't.
func modes() []int {
	return []int{1, 2, 3, 0, 4, 5, -1, -2, 256, 1<<32 + 1, 1<<32 + 3, lowest, highest}
}

// gateOf is the place of a datacenter's gate.
func gateOf(dc int) int { return [4]int{1, 6, 11, 16}[dc] }

// placesOf are a datacenter's places: its gate's, and those of its nodes.
func placesOf(dc int) [5]int {
	return [4][5]int{{1, 2, 3, 4, 5}, {6, 7, 8, 9, 10}, {11, 12, 13, 14, 15}, {16, 17, 18, 19, 20}}[dc]
}

// mapOf is a map with these nodes and cuts, right or not.
func mapOf(nodes []int, cuts ...string) api.Map { return api.Map{Cuts: cuts, Nodes: nodes} }

func sameMap(a, b api.Map) bool {
	return slices.Equal(a.Cuts, b.Cuts) && slices.Equal(a.Nodes, b.Nodes)
}

// ownMap is the same map in memory of the test's.
func ownMap(m api.Map) api.Map {
	var c api.Map
	c.Cuts = append(c.Cuts, m.Cuts...)
	c.Nodes = append(c.Nodes, m.Nodes...)
	return c
}

// lettered is a right map of so many shards, cut at b, d, f and so on, with the nodes 0 to nodes - 1 in turn.
func lettered(shards, nodes int) api.Map {
	var m api.Map
	for i := range shards {
		if i > 0 {
			m.Cuts = append(m.Cuts, string(rune('b'+2*(i-1))))
		}
		m.Nodes = append(m.Nodes, i%nodes)
	}
	return m
}

// wrongMaps are wrong whatever the nodes.
func wrongMaps() []api.Map {
	return []api.Map{
		{},
		mapOf(nil, "m"),
		mapOf([]int{0}, "m"),
		mapOf([]int{0, 1}),
		mapOf([]int{0, 0, 0, 0, 0, 0, 0, 0, 0}, "a", "b", "c", "d", "e", "f", "g", "h"),
		mapOf([]int{0, 0}, ""),
		mapOf([]int{0, 0}, strings.Repeat("n", 17)),
		mapOf([]int{0, 0, 0}, "m", "c"),
		mapOf([]int{0, -1}, "m"),
		mapOf([]int{0, highest, lowest}, "c", "m"),
	}
}

// same tells whether two configurations mean the same: a list of no elements is nil, or not.
func same(a, b config.State) bool {
	for dc := range a.Maps {
		if !sameMap(a.Maps[dc], b.Maps[dc]) {
			return false
		}
	}
	return a.Pool == b.Pool && a.Nodes == b.Nodes && a.Members == b.Members && a.Modes == b.Modes
}

// own is the same configuration in memory of the test's.
func own(s config.State) config.State {
	for dc, m := range s.Maps {
		s.Maps[dc] = ownMap(m)
	}
	return s
}

// told tells a configuration.
func told(s config.State) string {
	var b strings.Builder
	fmt.Fprintf(&b, "{pool %d, nodes %d, members", s.Pool, s.Nodes)
	for _, dc := range membersOf(s) {
		fmt.Fprint(&b, " ", dc)
	}
	for dc, m := range s.Maps {
		if len(m.Cuts) > 0 || len(m.Nodes) > 0 {
			fmt.Fprintf(&b, ", map %d: %.20q %v", dc, m.Cuts, m.Nodes)
		}
	}
	return fmt.Sprintf("%s, modes %v}", b.String(), s.Modes)
}

func membersOf(s config.State) []int {
	var l []int
	for dc, is := range s.Members {
		if is {
			l = append(l, dc)
		}
	}
	return l
}

// change makes something of a configuration.
type change func(s *config.State)

// behind is a configuration in memory of the test's, changed.
func behind(s config.State, changes ...change) config.State {
	s = own(s)
	for _, c := range changes {
		c(&s)
	}
	return s
}

func isMember(is bool, dcs ...int) change {
	return func(s *config.State) {
		for _, dc := range dcs {
			s.Members[dc] = is
		}
	}
}

func hasMap(dc int, m api.Map) change { return func(s *config.State) { s.Maps[dc] = ownMap(m) } }

// speaks gives some places a mode.
func speaks(mode int, places ...int) change {
	return func(s *config.State) {
		for _, place := range places {
			s.Modes[place] = mode
		}
	}
}

// allSpeak gives all places of a datacenter a mode.
func allSpeak(mode, dc int) change {
	places := placesOf(dc)
	return speaks(mode, places[:]...)
}

// numbered gives each place a mode of its own, that is none.
func numbered(s *config.State) {
	for place := range s.Modes {
		s.Modes[place] = 10 + place
	}
}

// oddModes gives the places modes of which most are none.
func oddModes(s *config.State) {
	for place := range s.Modes {
		s.Modes[place] = modes()[place%len(modes())]
	}
}

// joined, left: what an Add, and a Remove, changes.
func joined(dc int) change {
	return func(s *config.State) {
		isMember(true, dc)(s)
		hasMap(dc, mapOf([]int{0}))(s)
		allSpeak(2, dc)(s)
	}
}

func left(dc int) change {
	return func(s *config.State) {
		isMember(false, dc)(s)
		hasMap(dc, api.Map{})(s)
		allSpeak(2, dc)(s)
	}
}

// calm is a configuration of four datacenters with four nodes and of these members, each with the map of one shard at node 0, in which all places are Both.
func calm(members ...int) config.State {
	s := config.State{Pool: 4, Nodes: 4}
	for place := range s.Modes {
		s.Modes[place] = 2
	}
	for _, dc := range members {
		s.Members[dc] = true
		s.Maps[dc] = mapOf([]int{0})
	}
	return s
}

// sets are all the ways to be members.
func sets() [][]int {
	var l [][]int
	for bits := range 16 {
		var set []int
		for dc := range 4 {
			if bits>>dc&1 == 1 {
				set = append(set, dc)
			}
		}
		l = append(l, set)
	}
	return l
}

// strangeStates are configurations of all kinds, most of which no commands lead to.
func strangeStates() []config.State {
	sized := func(pool, nodes int) change {
		return func(s *config.State) { s.Pool, s.Nodes = pool, nodes }
	}
	l := []config.State{
		{},
		calm(),
		calm(0, 1, 2, 3),
		behind(calm(0, 3), sized(2, 1)),
		behind(calm(2), sized(1, 4)),
		behind(calm(0, 1), sized(0, 0)),
		behind(calm(0, 1, 2, 3), sized(lowest, highest)),
		behind(calm(1, 2), sized(highest, lowest)),
		behind(calm(0, 3), sized(highest, highest)),
		behind(calm(1, 3), oddModes),
		behind(calm(0, 2), numbered),
		behind(calm(0, 1), speaks(1, 0), speaks(3, 20)),
		behind(calm(0), speaks(3, 0, 16), allSpeak(1, 1)),
		behind(calm(0, 1, 2, 3), oddModes, hasMap(1, lettered(8, 4)), hasMap(3, lettered(5, 1))),
		behind(config.State{Pool: 3, Nodes: 2}, hasMap(2, lettered(3, 4))),
	}
	wrong := wrongMaps()
	for i := range wrong {
		s := calm(i%4, (i+1)%4)
		for dc := range 4 {
			s.Maps[dc] = wrong[(i+dc)%len(wrong)]
		}
		l = append(l, s)
	}
	return l
}

func adding(dc int) api.Cmd   { return api.Cmd{Kind: 1, DC: dc} }
func removing(dc int) api.Cmd { return api.Cmd{Kind: 2, DC: dc} }

func splitting(dc, shard int, key string) api.Cmd {
	return api.Cmd{Kind: 3, DC: dc, Shard: shard, Key: key}
}

func merging(dc, shard int) api.Cmd      { return api.Cmd{Kind: 4, DC: dc, Shard: shard} }
func moving(dc, shard, node int) api.Cmd { return api.Cmd{Kind: 5, DC: dc, Shard: shard, Node: node} }

func switching(dc, node, mode int) api.Cmd {
	return api.Cmd{Kind: 6, DC: dc, Node: node, Mode: mode}
}

func tellCmd(c api.Cmd) string {
	return fmt.Sprintf("{kind %d, dc %d, shard %d, node %d, mode %d, key %.20q}", c.Kind, c.DC, c.Shard, c.Node, c.Mode, c.Key)
}

// noisy is a command with something in each field that its kind doesn't use.
func noisy(c api.Cmd) api.Cmd {
	if c.Kind < 3 || c.Kind == 6 {
		c.Shard = 77
	}
	if c.Kind < 5 {
		c.Node = -3
	}
	if c.Kind < 6 {
		c.Mode = 9
	}
	if c.Kind != 3 {
		c.Key = strings.Repeat("noise", 9)
	}
	return c
}

// kind is a command that may be done over base, whatever its datacenter, and what it changes.
type kind struct {
	cmd    api.Cmd
	change change
}

// base is a configuration of the members 0, 1 and 2, in which each place has a mode of its own, and each map two shards of one node.
func base() config.State {
	s := behind(calm(0, 1, 2), numbered)
	for dc := range 3 {
		s.Maps[dc] = mapOf([]int{dc, dc}, "m")
	}
	return s
}

// kinds are commands over base, of each kind, and of each datacenter that may have one.
func kinds() []kind {
	l := []kind{{adding(3), joined(3)}}
	for dc := range 3 {
		l = append(l,
			kind{removing(dc), left(dc)},
			kind{splitting(dc, 1, "t"), hasMap(dc, mapOf([]int{dc, dc, dc}, "m", "t"))},
			kind{merging(dc, 0), hasMap(dc, mapOf([]int{dc}))},
			kind{moving(dc, 1, 3), hasMap(dc, mapOf([]int{dc, 3}, "m"))},
			kind{switching(dc, 0, 2), speaks(2, placesOf(dc)[0])},
			kind{switching(dc, 4, 3), speaks(3, placesOf(dc)[4])})
	}
	return l
}

// isTwofold tells whether a command has an entry with N 2.
func isTwofold(c api.Cmd) bool { return c.Kind == 1 || c.Kind == 2 }
