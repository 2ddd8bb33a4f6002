package span_test

import (
	"fmt"
	"strings"
	"testing"

	"confluence/api"
	"confluence/span"
)

// noNodes are numbers of nodes that may not be; some are right in their lower 32 bits.
var noNodes = []int{-farOff - 1, -5, -1, 0, 5, 6, 8, 1 << 32, 1<<32 + 1, 1<<32 + 4, farOff}

func wantCheck(t *testing.T, m api.Map, nodes int, want api.Errno) {
	t.Helper()
	wantError(t, "P8.1", fmt.Sprintf("Check(%s, %d)", told(m), nodes), span.Check(m, nodes), want)
}

func TestCheckOfRightMaps(t *testing.T) {
	for _, m := range rightMaps() {
		wantCheck(t, m, 4, api.OK)
	}
}

func TestCheckOfWrongMaps(t *testing.T) {
	for _, m := range wrongMaps() {
		for nodes := 1; nodes <= 4; nodes++ {
			if span.Check(m, nodes) == api.OK {
				t.Errorf("P8.1: Check(%s, %d) has no error", told(m), nodes)
			}
		}
	}
}

// Ahead of all that may be wrong with the map itself.
func TestCheckNodesOutOfBounds(t *testing.T) {
	for _, nodes := range noNodes {
		for _, m := range allMaps() {
			wantCheck(t, m, nodes, api.ErrArg)
		}
	}
}

func TestCheckNodesInBounds(t *testing.T) {
	for nodes := 1; nodes <= 4; nodes++ {
		for node := range 8 {
			want := api.OK
			if node >= nodes {
				want = api.ErrNone
			}
			wantCheck(t, mapOf([]int{node}), nodes, want)
			wantCheck(t, mapOf([]int{0, node}, "m"), nodes, want)
		}
	}
}

// Each count of Nodes with each count of Cuts.
func TestCheckCounts(t *testing.T) {
	for nodes := range 12 {
		for cuts := range 12 {
			want := api.OK
			switch {
			case nodes > 8:
				want = api.ErrFull
			case nodes != cuts+1:
				want = api.ErrForm
			}
			wantCheck(t, mapOf(make([]int, nodes), letters(cuts)...), 1, want)
			wantCheck(t, mapOf(nodesInTurn(nodes), letters(cuts)...), 4, want)
		}
	}
	wantCheck(t, mapOf(make([]int, 1000), letters(7)...), 1, api.ErrFull)
	wantCheck(t, mapOf(make([]int, 8), make([]string, 1000)...), 1, api.ErrForm)
	wantCheck(t, mapOf(nil, make([]string, 8)...), 1, api.ErrForm)
}

// cutsOf are rows of cuts, and what is wrong with them.
func cutsOf() map[api.Errno][][]string {
	c15, c16, c17 := strings.Repeat("c", 15), strings.Repeat("c", 16), strings.Repeat("c", 17)
	e8, e9 := strings.Repeat("\u00e9", 8), strings.Repeat("\u00e9", 9)
	return map[api.Errno][][]string{
		api.OK: {
			{}, {"m"}, {"\x00"}, {" "}, {c15}, {c16}, {e8}, {"b", c15}, {"b", c16}, {c15, c16}, {c16, "d"},
			{"a", "b"}, {"a", "ab"}, {"a", "a\x00"}, {"a", "aa", "aaa"}, {"\x00", "\x00\x00"}, {"a\xff", "b"}, {"aaa", "b"},
			{"\x7f", "\x80"}, {"\x80", "\xff"}, {"a\x80", "a\x81"}, {"a\xfe", "a\xff"}, {"\xf0\x9f\x98\x80", "\xff"}, {"Z", "a"},
			{"\xef\xbf\xbd", "\xf0\x9f\x98\x80"}, {"\xc3\xa9", "\xfe", "\xff"}, {"10", "9"},
		},
		api.ErrForm: {
			{""}, {"", "m"}, {"m", ""}, {"b", "m", ""}, {"b", "", "m"}, {"", ""},
			{"m", "m"}, {"b", "m", "m"}, {"b", "b", "m"}, {"b", "m", "b"}, {c16, c16},
			{"m", "b"}, {"b", "x", "m"}, {"x", "b", "m"}, {"m", "x", "b"}, {"b", "a", "c", "d", "e", "f", "g"}, {"b", "c", "d", "e", "f", "h", "g"},
			{"ab", "a"}, {"a\x00", "a"}, {c16, c15}, {"\x00\x00", "\x00"},
			{"\x80", "\x7f"}, {"\xff", "\x80"}, {"\xff", "a"}, {"a\x81", "a\x80"}, {"\xff", "\xf0\x9f\x98\x80"}, {"\xff", "\xfe"}, {"a", "Z"},
			{"", c17}, {"m", "m", c17}, {"m", "b", c17}, {"b", "", c17},
		},
		api.ErrLong: {
			{c17}, {"b", c17}, {c17, "d"}, {c16, c17}, {"b", "c", c17}, {e9}, {strings.Repeat("\x00", 17)}, {strings.Repeat("long ", 10000)},
			{c17, ""}, {c17, c17}, {c17, "b"}, {"m", c17}, {c16, strings.Repeat("b", 17)}, {"b", c17, "a"}, {"b", c17, ""}, {c17, c16},
		},
	}
}

func TestCheckCuts(t *testing.T) {
	for want, rows := range cutsOf() {
		for _, cuts := range rows {
			wantCheck(t, mapOf(make([]int, len(cuts)+1), cuts...), 1, want)
			wantCheck(t, mapOf(nodesInTurn(len(cuts)+1), cuts...), 4, want)
		}
	}
}

// At each place of each length of a map, with all else right.
func TestCheckOneCutAmongMany(t *testing.T) {
	for shards := 2; shards <= 8; shards++ {
		for at := range shards - 1 {
			for cut, want := range map[string]api.Errno{"": api.ErrForm, letters(at + 1)[at] + strings.Repeat("y", 15): api.OK, strings.Repeat("y", 17): api.ErrLong} {
				m := lettered(shards)
				m.Cuts[at] = cut
				wantCheck(t, m, 4, want)
			}
			if at > 0 {
				m := lettered(shards)
				m.Cuts[at] = m.Cuts[at-1]
				wantCheck(t, m, 4, api.ErrForm)
				m.Cuts[at-1], m.Cuts[at] = letters(shards)[at], m.Cuts[at-1]
				wantCheck(t, m, 4, api.ErrForm)
			}
		}
	}
}

func TestCheckOneNodeAmongMany(t *testing.T) {
	for shards := 1; shards <= 8; shards++ {
		for at := range shards {
			for nodes := 1; nodes <= 4; nodes++ {
				for node, want := range map[int]api.Errno{
					-farOff - 1: api.ErrNone, -5: api.ErrNone, -1: api.ErrNone, 0: api.OK, nodes - 1: api.OK,
					nodes: api.ErrNone, nodes + 1: api.ErrNone, 1 << 32: api.ErrNone, farOff: api.ErrNone,
				} {
					m := mapOf(make([]int, shards), letters(shards-1)...)
					m.Nodes[at] = node
					wantCheck(t, m, nodes, want)
				}
			}
		}
	}
}

// fault makes one thing wrong with a map of five shards over two nodes; the later ones leave alone what the earlier ones did.
type fault struct {
	name  string
	want  api.Errno
	spoil func(m *api.Map, nodes *int)
}

// faults stand in the chapter's order.
func faults() []fault {
	cut := func(at int, text string) func(*api.Map, *int) {
		return func(m *api.Map, _ *int) { m.Cuts[at] = text }
	}
	return []fault{
		{"nodes", api.ErrArg, func(_ *api.Map, nodes *int) { *nodes = 5 }},
		{"too many Nodes", api.ErrFull, func(m *api.Map, _ *int) {
			m.Nodes = append(m.Nodes, 0, 0, 0, 0)
			m.Cuts = append(m.Cuts, "r", "s", "t", "u")
		}},
		{"more Cuts", api.ErrForm, func(m *api.Map, _ *int) { m.Cuts = append(m.Cuts, "z") }},
		{"an empty cut", api.ErrForm, cut(0, "")},
		{"a long cut", api.ErrLong, cut(1, strings.Repeat("a", 17))},
		{"a cut that isn't above", api.ErrForm, cut(2, "a")},
		{"a second long cut", api.ErrLong, cut(3, strings.Repeat("p", 17))},
		{"a node", api.ErrNone, func(m *api.Map, _ *int) { m.Nodes[0] = 2 }},
	}
}

// Each choice of faults at once: the first one is told.
func TestCheckTellsTheFirst(t *testing.T) {
	all := faults()
	for chosen := range 1 << len(all) {
		m, nodes, want := mapOf([]int{0, 1, 1, 0, 1}, letters(4)...), 2, api.OK
		// From the last one on, so that each fault's places are as they were.
		for k := len(all) - 1; k >= 0; k-- {
			if chosen>>k&1 == 1 {
				all[k].spoil(&m, &nodes)
				want = all[k].want
			}
		}
		wantCheck(t, m, nodes, want)
	}
}

// Fewer Cuts than there should be, and what else may be wrong beside that.
func TestCheckFormAheadOfCutsAndNodes(t *testing.T) {
	for _, m := range []api.Map{
		mapOf([]int{0, 0}, "", "m"),
		mapOf([]int{0}, strings.Repeat("x", 17)),
		mapOf([]int{0, 0, 0, 0}, "m", strings.Repeat("x", 17)),
		mapOf([]int{0, 0, 0, 0}, "m", "b"),
		mapOf([]int{9, -1, 0}, "m"),
		mapOf([]int{9}, "m"),
		mapOf([]int{9, 9}),
	} {
		wantCheck(t, m, 1, api.ErrForm)
		wantCheck(t, m, 4, api.ErrForm)
	}
}
