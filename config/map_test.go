package config_test

import (
	"strings"
	"testing"

	"confluence/api"
	"confluence/span"
)

// shardCase is a command of a member's map, and what becomes of it.
type shardCase struct {
	nodes int
	m     api.Map
	cmd   func(dc int) api.Cmd
	e     api.Errno
	want  api.Map
}

func split(i int, key string) func(dc int) api.Cmd {
	return func(dc int) api.Cmd { return splitting(dc, i, key) }
}

func merge(i int) func(dc int) api.Cmd { return func(dc int) api.Cmd { return merging(dc, i) } }

func move(i, node int) func(dc int) api.Cmd {
	return func(dc int) api.Cmd { return moving(dc, i, node) }
}

// wantCases wants what becomes of each case at each datacenter, and that nothing else changes.
func wantCases(t *testing.T, cases []shardCase) {
	t.Helper()
	for _, l := range cases {
		for dc := range 4 {
			wantOfMap(t, dc, l.nodes, l.m, l.cmd(dc), l.want, l.e)
		}
	}
}

// wantOfMap wants what becomes of a member's map by a command, while the others have other maps.
func wantOfMap(t *testing.T, dc, nodes int, m api.Map, c api.Cmd, want api.Map, e api.Errno) {
	t.Helper()
	s := behind(calm(4, nodes, dc, (dc+1)%4), hasMap(dc, m), hasMap((dc+1)%4, lettered(8, 4)), hasMap((dc+3)%4, mapOf([]int{0, 0}, "m")))
	if e != api.OK {
		wantRefused(t, s, e, c)
		return
	}
	wantChanged(t, s, c, hasMap(dc, want))
}

func TestSplit(t *testing.T) {
	whole, three := mapOf([]int{0}), mapOf([]int{0, 1, 0}, "c", "m")
	wantCases(t, []shardCase{
		{1, whole, split(0, "m"), api.OK, mapOf([]int{0, 0}, "m")},
		{4, mapOf([]int{3}), split(0, "\x00"), api.OK, mapOf([]int{3, 3}, "\x00")},
		{2, three, split(0, "a"), api.OK, mapOf([]int{0, 0, 1, 0}, "a", "c", "m")},
		{2, three, split(1, "d"), api.OK, mapOf([]int{0, 1, 1, 0}, "c", "d", "m")},
		{2, three, split(1, "c\x00"), api.OK, mapOf([]int{0, 1, 1, 0}, "c", "c\x00", "m")},
		{2, three, split(2, "m\x00"), api.OK, mapOf([]int{0, 1, 0, 0}, "c", "m", "m\x00")},
		{2, three, split(2, strings.Repeat("\xff", 16)), api.OK, mapOf([]int{0, 1, 0, 0}, "c", "m", strings.Repeat("\xff", 16))},
		{2, three, split(0, "c"), api.ErrPoint, whole},
		{2, three, split(0, "d"), api.ErrPoint, whole},
		{2, three, split(0, ""), api.ErrPoint, whole},
		{2, three, split(1, "c"), api.ErrPoint, whole},
		{2, three, split(1, "b"), api.ErrPoint, whole},
		{2, three, split(1, "m"), api.ErrPoint, whole},
		{2, three, split(1, "n"), api.ErrPoint, whole},
		{2, three, split(1, ""), api.ErrPoint, whole},
		{2, three, split(2, "m"), api.ErrPoint, whole},
		{2, three, split(2, "a"), api.ErrPoint, whole},
		{2, three, split(2, strings.Repeat("\xff", 17)), api.ErrPoint, whole},
		{2, three, split(3, "z"), api.ErrNone, whole},
		{2, three, split(-1, "a"), api.ErrNone, whole},
		{2, three, split(highest, ""), api.ErrNone, whole},
		{2, three, split(lowest, ""), api.ErrNone, whole},
		{4, lettered(7, 4), split(6, "z"), api.OK, mapOf([]int{0, 1, 2, 3, 0, 1, 2, 2}, "b", "d", "f", "h", "j", "l", "z")},
		{4, lettered(8, 4), split(0, "a"), api.ErrFull, whole},
		{4, lettered(8, 4), split(3, "g"), api.ErrFull, whole},
		{4, lettered(8, 4), split(7, "z"), api.ErrFull, whole},
		{4, lettered(8, 4), split(7, "a"), api.ErrPoint, whole},
		{4, lettered(8, 4), split(8, "z"), api.ErrNone, whole},
		{1, three, split(0, "a"), api.ErrNone, whole},
		{3, lettered(4, 4), split(0, "a"), api.ErrNone, whole},
		{0, whole, split(0, "m"), api.ErrArg, whole},
		{5, whole, split(0, "m"), api.ErrArg, whole},
		{lowest, whole, split(0, ""), api.ErrArg, whole},
		{highest, lettered(8, 4), split(9, ""), api.ErrArg, whole},
	})
}

func TestMerge(t *testing.T) {
	whole, four := mapOf([]int{0}), mapOf([]int{1, 1, 0, 0}, "c", "m", "x")
	wantCases(t, []shardCase{
		{2, four, merge(0), api.OK, mapOf([]int{1, 0, 0}, "m", "x")},
		{2, four, merge(2), api.OK, mapOf([]int{1, 1, 0}, "c", "m")},
		{3, mapOf([]int{0, 2, 2, 1}, "c", "m", "x"), merge(1), api.OK, mapOf([]int{0, 2, 1}, "c", "x")},
		{4, mapOf([]int{3, 3}, "m"), merge(0), api.OK, mapOf([]int{3})},
		{1, lettered(8, 1), merge(6), api.OK, lettered(7, 1)},
		{2, four, merge(1), api.ErrAway, whole},
		{2, four, merge(3), api.ErrNone, whole},
		{2, four, merge(4), api.ErrNone, whole},
		{2, four, merge(-1), api.ErrNone, whole},
		{2, four, merge(highest), api.ErrNone, whole},
		{2, four, merge(lowest), api.ErrNone, whole},
		{1, whole, merge(0), api.ErrNone, whole},
		{4, lettered(8, 4), merge(7), api.ErrNone, whole},
		{4, lettered(8, 4), merge(6), api.ErrAway, whole},
		{1, four, merge(2), api.ErrNone, whole},
		{3, lettered(4, 4), merge(0), api.ErrNone, whole},
		{0, four, merge(0), api.ErrArg, whole},
		{5, four, merge(0), api.ErrArg, whole},
		{-1, four, merge(9), api.ErrArg, whole},
	})
}

func TestMove(t *testing.T) {
	whole, three := mapOf([]int{0}), mapOf([]int{0, 1, 0}, "c", "m")
	wantCases(t, []shardCase{
		{2, whole, move(0, 1), api.OK, mapOf([]int{1})},
		{4, whole, move(0, 3), api.OK, mapOf([]int{3})},
		{3, three, move(0, 2), api.OK, mapOf([]int{2, 1, 0}, "c", "m")},
		{3, three, move(1, 0), api.OK, mapOf([]int{0, 0, 0}, "c", "m")},
		{3, three, move(2, 1), api.OK, mapOf([]int{0, 1, 1}, "c", "m")},
		{4, lettered(8, 4), move(7, 0), api.OK, mapOf([]int{0, 1, 2, 3, 0, 1, 2, 0}, "b", "d", "f", "h", "j", "l", "n")},
		{3, three, move(0, 0), api.ErrThere, whole},
		{3, three, move(1, 1), api.ErrThere, whole},
		{3, three, move(2, 0), api.ErrThere, whole},
		{3, three, move(3, 1), api.ErrNone, whole},
		{3, three, move(-1, 1), api.ErrNone, whole},
		{3, three, move(highest, 5), api.ErrNone, whole},
		{3, three, move(lowest, -5), api.ErrNone, whole},
		{1, whole, move(0, 1), api.ErrArg, whole},
		{1, whole, move(0, 0), api.ErrThere, whole},
		{2, whole, move(0, 2), api.ErrArg, whole},
		{3, whole, move(0, 3), api.ErrArg, whole},
		{4, whole, move(0, 4), api.ErrArg, whole},
		{4, whole, move(0, -1), api.ErrArg, whole},
		{4, whole, move(0, highest), api.ErrArg, whole},
		{4, whole, move(0, lowest), api.ErrArg, whole},
		{1, three, move(0, 1), api.ErrNone, whole},
		{3, lettered(4, 4), move(3, 0), api.ErrNone, whole},
		{0, whole, move(0, 0), api.ErrArg, whole},
		{5, whole, move(0, 1), api.ErrArg, whole},
		{highest, whole, move(9, 1), api.ErrArg, whole},
	})
}

// A map that isn't right is told so, ahead of what else is wrong with the command.
func TestCommandsOfWrongMaps(t *testing.T) {
	for _, l := range []struct {
		m    api.Map
		want api.Errno
	}{
		{api.Map{}, api.ErrForm},
		{mapOf(nil, "m"), api.ErrForm},
		{mapOf([]int{0}, "m"), api.ErrForm},
		{mapOf([]int{0, 1}), api.ErrForm},
		{mapOf([]int{0, 0, 0, 0, 0, 0, 0, 0, 0}), api.ErrFull},
		{mapOf([]int{0, 0}, ""), api.ErrForm},
		{mapOf([]int{0, 0}, strings.Repeat("n", 17)), api.ErrLong},
		{mapOf([]int{0, 0, 0}, "m", "m"), api.ErrForm},
		{mapOf([]int{0, 0, 0}, "m", "c"), api.ErrForm},
		{mapOf([]int{0, -1}, "m"), api.ErrNone},
		{mapOf([]int{2, 0}, "m"), api.ErrNone},
	} {
		for _, cmd := range []func(dc int) api.Cmd{split(0, "a"), split(0, ""), split(-1, "a"), split(9, "z"), merge(0), merge(-1), merge(9), move(0, 1), move(0, 0), move(0, 9), move(-1, 1)} {
			wantCases(t, []shardCase{{2, l.m, cmd, l.want, api.Map{}}})
		}
	}
}

// What layer 8 answers of the datacenter's own map, Nodes, and the command's numbers, holds of all maps.
func TestCommandsAsLayer8(t *testing.T) {
	for k, m := range anyMaps() {
		for _, nodes := range []int{1, 2, 3, 4, 0, 5, -1, highest} {
			for i := -1; i <= 8; i++ {
				dc := (k + i + 4) % 4
				for _, key := range []string{"", "a", "b", "c", "m", "n", "z", "\xff"} {
					want, e := span.Split(ownMap(m), nodes, i, key)
					wantOfMap(t, dc, nodes, m, splitting(dc, i, key), want, e)
				}
				want, e := span.Merge(ownMap(m), nodes, i)
				wantOfMap(t, dc, nodes, m, merging(dc, i), want, e)
				for node := -1; node <= 4; node++ {
					want, e := span.Move(ownMap(m), nodes, i, node)
					wantOfMap(t, dc, nodes, m, moving(dc, i, node), want, e)
				}
			}
		}
	}
}

// The modes are of no matter, and stay.
func TestCommandsOfMapsWithAnyModes(t *testing.T) {
	for _, s := range strangeStates() {
		for dc := range 4 {
			s := behind(s, hasPool(4), hasNodes(2), isMember(true, dc), hasMap(dc, mapOf([]int{0, 0, 1}, "c", "m")))
			wantChanged(t, s, splitting(dc, 2, "x"), hasMap(dc, mapOf([]int{0, 0, 1, 1}, "c", "m", "x")))
			wantChanged(t, s, merging(dc, 0), hasMap(dc, mapOf([]int{0, 1}, "m")))
			wantChanged(t, s, moving(dc, 1, 1), hasMap(dc, mapOf([]int{0, 1, 1}, "c", "m")))
			wantRefused(t, s, api.ErrThere, moving(dc, 0, 0))
		}
	}
}
