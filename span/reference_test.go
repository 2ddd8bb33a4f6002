package span_test

import (
	"fmt"
	"slices"
	"strings"
	"testing"

	"confluence/api"
	"confluence/span"
)

// plain is a second map, always right: its shards one behind the other, each with the key that it begins at.
type plain []part

type part struct {
	from string
	node int
}

// step is one call of Split, Merge or Move. None of them takes all that it has.
type step struct {
	name           string
	nodes, i, node int
	key            string
}

func (s step) change() change {
	switch s.name {
	case "Split":
		return splitting(s.nodes, s.i, s.key)
	case "Merge":
		return merging(s.nodes, s.i)
	}
	return moving(s.nodes, s.i, s.node)
}

func (p plain) asMap() api.Map {
	var m api.Map
	for i, x := range p {
		if i > 0 {
			m.Cuts = append(m.Cuts, x.from)
		}
		m.Nodes = append(m.Nodes, x.node)
	}
	return m
}

func (p plain) check(nodes int) api.Errno {
	if nodes < 1 || nodes > 4 {
		return api.ErrArg
	}
	for _, x := range p {
		if x.node >= nodes {
			return api.ErrNone
		}
	}
	return api.OK
}

// has is the number of the last shard that doesn't begin above the key.
func (p plain) has(key string) int {
	for i := len(p) - 1; i > 0; i-- {
		if !above(p[i].from, key) {
			return i
		}
	}
	return 0
}

func (p plain) do(s step) (plain, api.Errno) {
	if e := p.check(s.nodes); e != api.OK {
		return nil, e
	}
	if s.i < 0 || s.i >= len(p) {
		return nil, api.ErrNone
	}
	switch s.name {
	case "Split":
		return p.split(s)
	case "Merge":
		if s.i == len(p)-1 {
			return nil, api.ErrNone
		}
		if p[s.i].node != p[s.i+1].node {
			return nil, api.ErrAway
		}
		return append(append(plain(nil), p[:s.i+1]...), p[s.i+2:]...), api.OK
	}
	if s.node < 0 || s.node >= s.nodes {
		return nil, api.ErrArg
	}
	if p[s.i].node == s.node {
		return nil, api.ErrThere
	}
	moved := append(plain(nil), p...)
	moved[s.i].node = s.node
	return moved, api.OK
}

func (p plain) split(s step) (plain, api.Errno) {
	if len(s.key) > 16 || p.has(s.key) != s.i || s.key == p[s.i].from {
		return nil, api.ErrPoint
	}
	if len(p) == 8 {
		return nil, api.ErrFull
	}
	split := append(append(plain(nil), p[:s.i+1]...), part{s.key, p[s.i].node})
	return append(split, p[s.i+1:]...), api.OK
}

// someKeys are those that long runs have to do with.
func someKeys() []string {
	l := shortTexts()
	for a := 'b'; a <= 'z'; a += 3 {
		l = append(l, string(a), string(a)+"\x00", string(a)+strings.Repeat("\xff", 15), string(a)+strings.Repeat("x", 16))
	}
	return l
}

// anyStep mostly has to do with a shard that is there. The more splits, the more shards.
func anyStep(r *numbers, p plain, keys []string, splits int) step {
	s := step{name: []string{"Merge", "Move", "Move"}[r.below(3)], nodes: 4, i: r.below(len(p)), node: r.below(4), key: keys[r.below(len(keys))]}
	if r.below(100) < splits {
		s.name = "Split"
		if r.below(4) > 0 {
			s.i = p.has(s.key)
		}
	}
	if r.below(10) == 0 {
		s.nodes = []int{-1, 0, 1, 2, 3, 5, farOff}[r.below(7)]
	}
	if r.below(15) == 0 {
		s.i = []int{-farOff - 1, -1, len(p), len(p) + 1, farOff}[r.below(5)]
	}
	if r.below(15) == 0 {
		s.node = []int{-farOff - 1, -1, 4, 5, farOff}[r.below(5)]
	}
	return s
}

func wantAlike(t *testing.T, m api.Map, p plain, keys []string) {
	t.Helper()
	for _, key := range keys {
		i := p.has(key)
		wantFound(t, m, found{key, i, p[i].node})
	}
	var shards []span.Shard
	for i, x := range p {
		shards = append(shards, span.Shard{Lo: x.from, Node: x.node})
		if i > 0 {
			shards[i-1].Hi = x.from
		}
	}
	wantShards(t, m, shards...)
	wantParted(t, "P8.2", m, keys)
	wantMap(t, "P8.1", "Copy", span.Copy(m), api.OK, p.asMap())
}

// run holds calls in a long row against the second map; how many of them answered what.
func run(t *testing.T, r *numbers, steps, splits int) map[string]int {
	t.Helper()
	node, keys, seen := r.below(4), someKeys(), map[string]int{}
	m, p := span.Whole(node), plain{{"", node}}
	for k := range steps {
		s := anyStep(r, p, keys, splits)
		next, wantE := p.do(s)
		got, e := s.change().do(m)
		seen[fmt.Sprintf("%s %d", s.name, e)]++
		if wantE != api.OK {
			wantRefused(t, "P8.1", s.change().of(m), got, e, wantE)
		} else {
			wantMap(t, "P8.1", s.change().of(m), got, e, next.asMap())
			m, p = got, next
		}
		wantError(t, "P8.4", "Check of "+told(m), span.Check(m, 4), api.OK)
		wantError(t, "P8.1", fmt.Sprintf("Check(%s, %d)", told(m), s.nodes), span.Check(m, s.nodes), p.check(s.nodes))
		if k%20 == 0 {
			wantAlike(t, m, p, keys)
		}
		if t.Failed() {
			t.Fatalf("P8.1: call %d was %s", k, s.change().name)
		}
	}
	return seen
}

func TestLongRunsOfCalls(t *testing.T) {
	r, seen := numbers(8), map[string]int{}
	for _, splits := range []int{5, 20, 40, 60, 80} {
		for range 3 {
			for what, count := range run(t, &r, 3000, splits) {
				seen[what] += count
			}
		}
	}
	for _, what := range []string{"Split 0", "Split 1", "Split 7", "Split 9", "Split 14", "Merge 0", "Merge 1", "Merge 7", "Merge 18", "Move 0", "Move 1", "Move 7", "Move 8"} {
		if seen[what] == 0 {
			t.Errorf("P8.1: in long runs no call was as %s: %v", what, seen)
		}
	}
}

// plainCheck tells what is wrong with any map.
func plainCheck(m api.Map, nodes int) api.Errno {
	switch {
	case !slices.Contains([]int{1, 2, 3, 4}, nodes):
		return api.ErrArg
	case len(m.Nodes) >= 9:
		return api.ErrFull
	case len(m.Nodes)-len(m.Cuts) != 1:
		return api.ErrForm
	}
	for i, cut := range m.Cuts {
		if len(cut) >= 17 {
			return api.ErrLong
		}
		if len(cut) == 0 || i > 0 && !above(cut, m.Cuts[i-1]) {
			return api.ErrForm
		}
	}
	for _, node := range m.Nodes {
		if !slices.Contains([]int{0, 1, 2, 3}[:nodes], node) {
			return api.ErrNone
		}
	}
	return api.OK
}

// anyMap is right, or has some things wrong.
func anyMap(r *numbers, keys []string) api.Map {
	var m api.Map
	for range r.below(9) {
		if cut := keys[r.below(len(keys))]; cut != "" && len(cut) <= 16 {
			m.Cuts = append(m.Cuts, cut)
		}
	}
	slices.Sort(m.Cuts)
	m.Cuts = slices.Compact(m.Cuts)
	for range len(m.Cuts) + 1 {
		m.Nodes = append(m.Nodes, r.below(3))
	}
	for range r.below(4) {
		switch r.below(5) {
		case 0:
			m.Cuts = append(m.Cuts, keys[r.below(len(keys))])
		case 1:
			m.Nodes = append(m.Nodes, r.below(4))
		case 2:
			m.Nodes[r.below(len(m.Nodes))] = r.below(7) - 2
		case 3:
			if len(m.Cuts) > 0 {
				m.Cuts[r.below(len(m.Cuts))] = keys[r.below(len(keys))]
			}
		}
	}
	return m
}

// plainDo is what a change answers of any map.
func plainDo(m api.Map, s step) (plain, api.Errno) {
	if e := plainCheck(m, s.nodes); e != api.OK {
		return nil, e
	}
	var p plain
	for i, node := range m.Nodes {
		p = append(p, part{append([]string{""}, m.Cuts...)[i], node})
	}
	return p.do(s)
}

func TestAnyMaps(t *testing.T) {
	r, keys, seen := numbers(88), someKeys(), map[string]int{}
	for range 20000 {
		m := anyMap(&r, keys)
		nodes := []int{1, 2, 3, 4, 4, 4, 0, 5}[r.below(8)]
		want := plainCheck(m, nodes)
		seen[fmt.Sprintf("Check %d", want)]++
		wantCheck(t, m, nodes, want)
		key := keys[r.below(len(keys))]
		f := found{key, countOf(m, key), -1}
		if f.place < len(m.Nodes) {
			f.node = m.Nodes[f.place]
		}
		wantFound(t, m, f)
		s := step{[]string{"Split", "Merge", "Move"}[r.below(3)], nodes, r.below(9), r.below(4), key}
		next, wantE := plainDo(m, s)
		got, e := s.change().do(m)
		if wantE != api.OK {
			wantRefused(t, "P8.1", s.change().of(m), got, e, wantE)
		} else {
			wantMap(t, "P8.1", s.change().of(m), got, e, next.asMap())
		}
	}
	for _, what := range []string{"Check 0", "Check 1", "Check 3", "Check 6", "Check 7", "Check 9"} {
		if seen[what] < 50 {
			t.Errorf("P8.1: few maps were as %s: %v", what, seen)
		}
	}
}
