package config_test

import (
	"testing"

	"confluence/api"
	"confluence/config"
	"confluence/span"
	"confluence/wire"
)

// wantRight wants what holds of each configuration from Start on.
func wantRight(t *testing.T, s config.State, story string) {
	t.Helper()
	members := 0
	for dc, is := range s.Members {
		if is {
			members++
			if e := span.Check(s.Maps[dc], s.Nodes); e != api.OK {
				t.Errorf("P18.2: behind %s the map of the member %d has error %d: %s", story, dc, int(e), told(s))
			}
		} else if len(s.Maps[dc].Nodes) > 0 || len(s.Maps[dc].Cuts) > 0 {
			t.Errorf("P18.1: behind %s the datacenter %d, that is no member, has a map: %s", story, dc, told(s))
		}
	}
	if members == 0 {
		t.Errorf("P18.2: behind %s there is no member", story)
	}
	for place, mode := range s.Modes {
		for other := range place {
			if wire.Agree(mode, s.Modes[other]) == 0 {
				t.Errorf("P18.2: behind %s the places %d and %d agree on no version: %s", story, other, place, told(s))
			}
		}
	}
}

func TestWhatHoldsBehindAnyCommands(t *testing.T) {
	longRuns(t, 184, 200, 200, func(w *walker) {
		if !t.Failed() {
			wantRight(t, w.state, w.story())
		}
	})
}

// idOf is a text that two configurations have in common if they mean the same.
func idOf(s config.State) string { return told(s) }

// All configurations that some commands lead to, in rows of any length.
func TestWhatHoldsOfAllThatIsReached(t *testing.T) {
	for _, l := range []struct{ pool, members, nodes, least int }{{1, 1, 4, 200}, {2, 1, 1, 150}, {2, 2, 1, 150}, {3, 1, 1, 1000}, {2, 2, 2, 3000}} {
		first := started(t, l.pool, l.members, l.nodes)
		cmds := commandsOver(l.pool, l.nodes)
		seen, left := map[string]bool{idOf(first): true}, []config.State{first}
		for len(left) > 0 && !t.Failed() {
			s := left[len(left)-1]
			left = left[:len(left)-1]
			wantRight(t, s, "some commands")
			for _, c := range cmds {
				next, e := config.Apply(s, c)
				if id := idOf(next); e == api.OK && !seen[id] {
					seen[id] = true
					left = append(left, next)
				}
			}
		}
		if len(seen) < l.least {
			t.Errorf("P18.1: from Start(%d, %d, %d) but %d configurations are reached", l.pool, l.members, l.nodes, len(seen))
		}
	}
}

// commandsOver are all that change a configuration whose maps are cut at m alone.
func commandsOver(pool, nodes int) []api.Cmd {
	var l []api.Cmd
	for dc := range pool {
		l = append(l, adding(dc), removing(dc), splitting(dc, 0, "m"), merging(dc, 0))
		for node := range min(nodes, 2) {
			l = append(l, moving(dc, 0, node), moving(dc, 1, node))
		}
		for node := range nodes + 1 {
			l = append(l, switching(dc, node, 1), switching(dc, node, 2), switching(dc, node, 3))
		}
	}
	return l
}

// A run in which commands are refused comes to the same as one without them; so does one of what Plain makes of the commands, and one of commands with noise in what they don't use.
func TestRefusedCommandsAndNoiseAreOfNoMatter(t *testing.T) {
	n := numbers(185)
	for range 200 {
		pool, nodes := 1+n.below(4), 1+n.below(4)
		first := started(t, pool, 1+n.below(pool), nodes)
		all, short, bare, loud := first, first, first, first
		for range 100 {
			c := anyCmd(&n, all)
			if next, e := config.Apply(all, c); e == api.OK {
				all = next
				short, _ = config.Apply(short, c)
			}
			if next, e := config.Apply(bare, config.Plain(c)); e == api.OK {
				bare = next
			}
			if next, e := config.Apply(loud, noisy(c, one(&n, ints()), one(&n, someKeys()))); e == api.OK {
				loud = next
			}
			for _, other := range []config.State{short, bare, loud} {
				if !same(other, all) {
					t.Fatalf("P18.3: behind %s the configurations are unlike: %s and %s", tellCmd(c), told(other), told(all))
				}
			}
		}
	}
}

// Of any configuration each command, what Plain makes of it, and those with noise in what they don't use come to the same.
func TestPlainComesToTheSame(t *testing.T) {
	for _, s := range strangeStates() {
		for _, c := range allCmds() {
			want, wantE := config.Apply(s, c)
			for _, like := range likes(c) {
				if got, e := config.Apply(s, like); !same(got, want) || e != wantE {
					t.Errorf("P18.3: Apply(%s, %s) is %s with error %d, and of %s %s with error %d", told(s), tellCmd(c), told(want), int(wantE), tellCmd(like), told(got), int(e))
				}
			}
		}
	}
}

// Commands that undo one another.
func TestThereAndBack(t *testing.T) {
	n := numbers(186)
	longRuns(t, 187, 40, 100, func(w *walker) {
		for _, l := range [][2]api.Cmd{
			{splitting(0, 0, "a"), merging(0, 0)},
			{adding(3), removing(3)},
			{switching(1, 0, 2), switching(1, 0, w.state.Modes[6])},
			{moving(2, 0, 0), moving(2, 0, firstNode(w.state.Maps[2]))},
		} {
			next, e := config.Apply(w.state, l[0])
			if e != api.OK || n.below(2) == 0 {
				continue
			}
			if back, e := config.Apply(next, l[1]); e != api.OK || !same(back, w.state) {
				w.Errorf("P18.1: behind %s, %s and %s lead from %s to %s with error %d", w.story(), tellCmd(l[0]), tellCmd(l[1]), told(w.state), told(back), int(e))
			}
		}
	})
}

func firstNode(m api.Map) int {
	if len(m.Nodes) == 0 {
		return 0
	}
	return m.Nodes[0]
}
