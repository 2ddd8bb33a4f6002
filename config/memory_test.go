package config_test

import (
	"fmt"
	"slices"
	"testing"

	"confluence/api"
	"confluence/config"
)

// room is the memory that the lists of a configuration's maps are pieces of.
type room struct {
	cuts  [4][]string
	nodes [4][]int
}

// inRoom is a configuration whose lists stand in the midst of others, with spare room behind them.
func inRoom(s config.State) (config.State, *room) {
	r := &room{}
	for dc, m := range s.Maps {
		for i := range 3 {
			r.cuts[dc] = append(r.cuts[dc], fmt.Sprint("ahead of the cuts ", dc, i))
			r.nodes[dc] = append(r.nodes[dc], -100*dc-i)
		}
		r.cuts[dc] = append(r.cuts[dc], m.Cuts...)
		r.nodes[dc] = append(r.nodes[dc], m.Nodes...)
		for i := range 6 {
			r.cuts[dc] = append(r.cuts[dc], fmt.Sprint("behind the cuts ", dc, i))
			r.nodes[dc] = append(r.nodes[dc], 100*dc+i)
		}
		s.Maps[dc] = api.Map{Cuts: r.cuts[dc][3 : 3+len(m.Cuts)], Nodes: r.nodes[dc][3 : 3+len(m.Nodes)]}
	}
	return s, r
}

// wantAs wants that a room is as it was made of a configuration.
func (r *room) wantAs(t *testing.T, what string, s config.State) {
	t.Helper()
	_, was := inRoom(s)
	for dc := range 4 {
		if !slices.Equal(r.cuts[dc], was.cuts[dc]) || !slices.Equal(r.nodes[dc], was.nodes[dc]) {
			t.Errorf("P18.4: behind %s the map %d that was handed in, with what is around it, is %.30q %v", what, dc, r.cuts[dc], r.nodes[dc])
		}
	}
}

func (r *room) spoil() {
	for dc := range 4 {
		spoil(&api.Map{Cuts: r.cuts[dc], Nodes: r.nodes[dc]})
	}
}

func spoil(m *api.Map) {
	spoilCuts(m)
	spoilNodes(m)
}

// spoilCuts overwrites a map's cuts with their spare room.
func spoilCuts(m *api.Map) {
	for i := range m.Cuts[:cap(m.Cuts)] {
		m.Cuts[:cap(m.Cuts)][i] = "spoilt"
	}
}

func spoilNodes(m *api.Map) {
	for i := range m.Nodes[:cap(m.Nodes)] {
		m.Nodes[:cap(m.Nodes)][i] = -9
	}
}

// grow puts something into the spare room of a map's lists.
func grow(m api.Map) {
	for i := range 10 {
		m.Cuts = append(m.Cuts, "more than there is")
		m.Nodes = append(m.Nodes, -50-i)
	}
}

// maker is a call that answers a configuration.
type maker struct {
	name string
	do   func(s config.State) (config.State, api.Errno)
}

func applying(c api.Cmd) maker {
	return maker{"Apply of " + tellCmd(c), func(s config.State) (config.State, api.Errno) { return config.Apply(s, c) }}
}

// makers are Copy, and Apply of commands of all kinds.
func makers() []maker {
	l := []maker{{"Copy", func(s config.State) (config.State, api.Errno) { return config.Copy(s), api.OK }}}
	for dc := range 4 {
		l = append(l, applying(splitting(dc, 1, "m")), applying(splitting(dc, 0, "")), applying(splitting(dc, 7, "z")), applying(merging(dc, 1)), applying(moving(dc, 1, 0)), applying(moving(dc, 0, 3)), applying(moving(dc, 9, 9)), applying(switching(dc, 3, 3)), applying(switching(dc, 1, 2)), applying(switching(dc, 9, 9)))
		for _, c := range eachKind(dc) {
			l = append(l, applying(c))
		}
	}
	return append(l, applying(api.Cmd{Kind: 7}), applying(adding(4)), applying(removing(-1)))
}

// someStates are configurations with maps of one shard, of many and of none, of members and of others.
func someStates() []config.State {
	l := strangeStates()
	for shards := 1; shards <= 8; shards++ {
		s := calm(4, 4, 0, 1, 3)
		for dc := range 4 {
			s.Maps[dc] = lettered(1+(shards+dc)%8, 1+dc)
		}
		l = append(l, s)
	}
	return l
}

// What is handed in stays, with its spare room; also where the command is refused.
func TestWhatIsHandedInStays(t *testing.T) {
	for _, was := range someStates() {
		s, r := inRoom(was)
		for _, m := range makers() {
			m.do(s)
			r.wantAs(t, m.name, was)
		}
		config.Count(s)
		r.wantAs(t, "Count", was)
		if !same(s, was) {
			t.Errorf("P18.4: behind the calls what was handed in is %s, not %s", told(s), told(was))
		}
	}
}

// With what was handed in changed behind the call, what was answered stays as it was.
func TestWhatIsHandedInIsNotKept(t *testing.T) {
	for _, was := range someStates() {
		for _, m := range makers() {
			want, wantE := m.do(own(was))
			want = own(want)
			s, r := inRoom(was)
			got, e := m.do(s)
			r.spoil()
			if !same(got, want) || e != wantE {
				t.Errorf("P18.4: with what was handed in changed behind it, %s of %s is %s, not %s", m.name, told(was), told(got), told(want))
			}
		}
	}
}

// With what was answered changed, neither what was handed in nor another answer changes.
func TestAnswersAreNewMemory(t *testing.T) {
	for _, was := range someStates() {
		for _, m := range makers() {
			s, r := inRoom(was)
			got, _ := m.do(s)
			want := own(got)
			other, _ := m.do(s)
			for dc := range 4 {
				grow(got.Maps[dc])
				spoil(&got.Maps[dc])
			}
			r.wantAs(t, "a change of what was answered by "+m.name, was)
			third, _ := m.do(s)
			if !same(other, want) || !same(third, want) {
				t.Errorf("P18.4: with one answer of %s changed, others are %s and %s, not %s", m.name, told(other), told(third), told(want))
			}
		}
	}
}

// wantApart changes each list of an answer, and wants that all its others stay; the function answers it anew each time.
func wantApart(t *testing.T, what string, answer func() config.State) {
	t.Helper()
	for dc := range 4 {
		for _, change := range []func(m *api.Map){spoilCuts, spoilNodes, func(m *api.Map) { grow(*m) }} {
			got := answer()
			want := own(got)
			change(&got.Maps[dc])
			for other := range 4 {
				if other != dc && !sameMap(got.Maps[other], want.Maps[other]) {
					t.Errorf("R3: with the map %d of %s changed, its map %d is %q %v", dc, what, other, got.Maps[other].Cuts, got.Maps[other].Nodes)
				}
			}
		}
	}
}

func TestNoTwoMapsShareMemory(t *testing.T) {
	for members := 1; members <= 4; members++ {
		wantApart(t, fmt.Sprintf("Start(4, %d, 2)", members), func() config.State { return started(t, 4, members, 2) })
	}
	// Those that are handed in do.
	shared := calm(4, 4, 0, 1, 2)
	m := lettered(5, 1)
	for dc := range 4 {
		shared.Maps[dc] = m
	}
	for _, l := range makers() {
		wantApart(t, l.name, func() config.State {
			s, _ := l.do(shared)
			return s
		})
	}
	s := started(t, 4, 2, 2)
	for _, c := range []api.Cmd{adding(2), adding(3)} {
		before := s
		wantApart(t, "Apply of "+tellCmd(c), func() config.State {
			next, _ := config.Apply(before, c)
			return next
		})
		s, _ = config.Apply(s, c)
	}
}

// Each Start is a configuration of its own.
func TestStartIsNewMemory(t *testing.T) {
	for members := 1; members <= 4; members++ {
		one, other := started(t, 4, members, 3), started(t, 4, members, 3)
		want := own(other)
		for dc := range 4 {
			grow(one.Maps[dc])
			spoil(&one.Maps[dc])
			one.Members[dc], one.Modes[dc] = false, 9
		}
		if third := started(t, 4, members, 3); !same(other, want) || !same(third, want) {
			t.Errorf("P18.4: with one answer of Start(4, %d, 3) changed, others are %s and %s, not %s", members, told(other), told(third), told(want))
		}
	}
}

// One configuration goes from command to command, each of which is spoilt when the next one is there.
func TestAnswersOfAnswers(t *testing.T) {
	n := numbers(188)
	for range 100 {
		pool := 1 + n.below(4)
		s := started(t, pool, 1+n.below(pool), 4)
		p := plainOf(s)
		for range 100 {
			c := anyCmd(&n, s)
			want := p.of(c)
			next, e := config.Apply(s, c)
			if e != want {
				t.Fatalf("P18.1: Apply(%s, %s) has error %d, not %d", told(s), tellCmd(c), int(e), int(want))
			}
			if e != api.OK {
				next = config.Copy(s)
			}
			for dc := range 4 {
				grow(s.Maps[dc])
				spoil(&s.Maps[dc])
			}
			if !same(next, p.state()) {
				t.Fatalf("P18.4: behind %s, with the configuration changed that it was made of, there is %s, not %s", tellCmd(c), told(next), told(p.state()))
			}
			s = next
		}
	}
}

// The same is answered again, in any order and whatever was asked in between.
func TestAnswersHangOnArgumentsAlone(t *testing.T) {
	n := numbers(189)
	type asked struct {
		s    config.State
		c    api.Cmd
		want config.State
		e    api.Errno
	}
	var l []asked
	for range 3000 {
		a := asked{s: anyState(&n)}
		a.c = anyCmd(&n, a.s)
		got, e := config.Apply(a.s, a.c)
		a.want, a.e = own(got), e
		l = append(l, a)
	}
	for range 9000 {
		a := one(&n, l)
		if got, e := config.Apply(a.s, a.c); !same(got, a.want) || e != a.e {
			t.Fatalf("R2: Apply(%s, %s) is %s with error %d, and then %s with error %d", told(a.s), tellCmd(a.c), told(a.want), int(a.e), told(got), int(e))
		}
	}
}

// A call that has an error changes nothing that a later one tells.
func TestErrorsChangeNothing(t *testing.T) {
	for _, s := range strangeStates() {
		var want []config.State
		for _, c := range eachKind(1) {
			next, _ := config.Apply(s, c)
			want = append(want, own(next))
		}
		copied := own(config.Copy(s))
		for _, c := range allCmds() {
			if _, e := config.Apply(s, c); e == api.OK {
				continue
			}
			config.Start(c.DC, c.Shard, c.Node)
			if is := config.Copy(s); !same(is, copied) {
				t.Fatalf("R6: behind the refused %s Copy is %s, not %s", tellCmd(c), told(is), told(copied))
			}
		}
		for i, c := range eachKind(1) {
			if next, _ := config.Apply(s, c); !same(next, want[i]) {
				t.Errorf("R6: behind refused commands Apply(%s, %s) is %s, not %s", told(s), tellCmd(c), told(next), told(want[i]))
			}
		}
	}
	for range 2 {
		config.Start(0, 0, 0)
		wantStart(t, 1, 1, 1, behind(calm(1, 1, 0), speaks(1, 1, 2)), api.OK)
	}
}

// A list of no elements means the same, nil or not.
func TestNilAndEmptyLists(t *testing.T) {
	for _, s := range strangeStates() {
		empty := own(s)
		for dc := range 4 {
			if len(empty.Maps[dc].Cuts) == 0 {
				empty.Maps[dc].Cuts = []string{}
			}
			if len(empty.Maps[dc].Nodes) == 0 {
				empty.Maps[dc].Nodes = []int{}
			}
		}
		for _, m := range makers() {
			got, e := m.do(s)
			if other, otherE := m.do(empty); !same(got, other) || e != otherE {
				t.Errorf("R4: %s of %s is %s with error %d, but with lists that aren't nil %s with error %d", m.name, told(s), told(got), int(e), told(other), int(otherE))
			}
		}
	}
}
