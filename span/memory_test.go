package span_test

import (
	"fmt"
	"slices"
	"testing"

	"confluence/api"
	"confluence/span"
)

// room is the memory that a map's lists are pieces of.
type room struct {
	cuts  []string
	nodes []int
}

// inRoom is a map whose lists stand in the midst of others, with spare room behind them.
func inRoom(m api.Map) (api.Map, room) {
	var r room
	for i := range 3 {
		r.cuts = append(r.cuts, fmt.Sprint("ahead of the cuts ", i))
		r.nodes = append(r.nodes, -100-i)
	}
	r.cuts = append(r.cuts, m.Cuts...)
	r.nodes = append(r.nodes, m.Nodes...)
	for i := range 12 {
		r.cuts = append(r.cuts, fmt.Sprint("behind the cuts ", i))
		r.nodes = append(r.nodes, 100+i)
	}
	return api.Map{Cuts: r.cuts[3 : 3+len(m.Cuts)], Nodes: r.nodes[3 : 3+len(m.Nodes)]}, r
}

func wantRoomAsItWas(t *testing.T, promise, call string, r room, m api.Map) {
	t.Helper()
	if _, was := inRoom(m); !slices.Equal(r.cuts, was.cuts) || !slices.Equal(r.nodes, was.nodes) {
		t.Errorf("%s: behind %s what was handed in is %q, %v with what is around it", promise, call, r.cuts, r.nodes)
	}
}

// spoilMap overwrites a map's lists with their spare room.
func spoilMap(m api.Map) {
	cuts, nodes := m.Cuts[:cap(m.Cuts)], m.Nodes[:cap(m.Nodes)]
	for i := range cuts {
		cuts[i] = "spoilt " + cuts[i]
	}
	for i := range nodes {
		nodes[i] = -9 - nodes[i]
	}
}

// growMap puts something into a map's spare room.
func growMap(m api.Map) {
	for i := range 10 {
		m.Cuts = append(m.Cuts, "more than there is")
		m.Nodes = append(m.Nodes, -50-i)
	}
}

// mapMakers are calls that answer a map.
func mapMakers() []change {
	l := []change{{"Copy(..)", func(m api.Map) (api.Map, api.Errno) { return span.Copy(m), api.OK }}}
	l = append(l, changes(4)...)
	l = append(l, changes(2)...)
	return append(l, changes(0)...)
}

// tellers are calls that answer no map.
func tellers() map[string]func(m api.Map) string {
	return map[string]func(m api.Map) string{
		"Check": func(m api.Map) string { return fmt.Sprint(span.Check(m, 4), span.Check(m, 1), span.Check(m, 0)) },
		"Find":  func(m api.Map) string { return fmt.Sprint(span.Find(m, ""), span.Find(m, "c"), span.Find(m, "\xff")) },
		"Owner": func(m api.Map) string {
			return fmt.Sprint(span.Owner(m, ""), span.Owner(m, "c"), span.Owner(m, "\xff"))
		},
		"Shards": func(m api.Map) string { return fmt.Sprint(shardsOf(m)) },
		"At": func(m api.Map) string {
			first, there := span.At(m, 0)
			last, too := span.At(m, len(m.Cuts))
			none, not := span.At(m, len(m.Nodes))
			return fmt.Sprint(quoted(first), there, quoted(last), too, quoted(none), not)
		},
	}
}

// What is handed in stays, also where it is refused; twice the same is answered the same (R2).
func TestWhatIsHandedInStays(t *testing.T) {
	for _, was := range allMaps() {
		m, r := inRoom(was)
		for _, c := range mapMakers() {
			got, e := c.do(m)
			promise := "R3"
			if e != api.OK {
				promise = "R6"
			}
			wantRoomAsItWas(t, promise, c.of(was), r, was)
			if again, e2 := c.do(own(was)); !same(got, again) || e != e2 {
				t.Errorf("R2: %s is %s with error %d, and then %s with error %d", c.of(was), told(got), e, told(again), e2)
			}
		}
		for name, tell := range tellers() {
			got := tell(m)
			wantRoomAsItWas(t, "R3", name+" of "+told(was), r, was)
			if again := tell(own(was)); again != got {
				t.Errorf("R2: %s of %s tells %s, and then %s", name, told(was), got, again)
			}
		}
		if t.Failed() {
			return
		}
	}
}

// With what was handed in changed behind the call, what was answered stays as it was.
func TestWhatIsHandedInIsNotKept(t *testing.T) {
	for _, was := range allMaps() {
		for _, c := range mapMakers() {
			want, wantE := c.do(own(was))
			want = own(want)
			m, r := inRoom(was)
			got, e := c.do(m)
			spoilMap(api.Map{Cuts: r.cuts, Nodes: r.nodes})
			if !same(got, want) || e != wantE {
				t.Errorf("R3: with the map changed behind it, %s is %s with error %d, not %s with error %d", c.of(was), told(got), e, told(want), wantE)
			}
		}
	}
}

// Shards goes through the map as it was at the call.
func TestShardsKeepsNothing(t *testing.T) {
	for _, was := range allMaps() {
		want := shardsOf(own(was))
		m, r := inRoom(was)
		shards := span.Shards(m)
		for range 2 {
			spoilMap(api.Map{Cuts: r.cuts, Nodes: r.nodes})
			var got []numbered
			for i, s := range shards {
				got = append(got, numbered{i, s})
			}
			if !slices.Equal(got, want) {
				t.Errorf("R3: with the map changed behind it, Shards(%s) tells %v", told(was), got)
			}
		}
	}
}

// What is answered is changed by whom it was told to: neither what was handed in nor another answer changes.
func TestAnswersAreNewMemory(t *testing.T) {
	for _, was := range allMaps() {
		for _, c := range mapMakers() {
			m, r := inRoom(was)
			got, e := c.do(m)
			want := own(got)
			again, _ := c.do(m)
			growMap(got)
			wantRoomAsItWas(t, "R3", "a change of what was answered by "+c.of(was), r, was)
			spoilMap(got)
			wantRoomAsItWas(t, "R3", "a change of what was answered by "+c.of(was), r, was)
			third, _ := c.do(m)
			for _, other := range []api.Map{again, third} {
				if !same(other, want) {
					t.Errorf("R3: with one answer of %s (error %d) changed another one is %s", c.of(was), e, told(other))
				}
			}
		}
	}
}

func TestWholeIsNewMemory(t *testing.T) {
	for _, node := range []int{0, 1, 3, -1} {
		m, other := span.Whole(node), span.Whole(node)
		growMap(m)
		wantMap(t, "R3", "Whole, with something put behind it,", m, api.OK, mapOf([]int{node}))
		spoilMap(m)
		wantMap(t, "R3", "Whole, with another one changed,", other, api.OK, mapOf([]int{node}))
		wantMap(t, "R3", "Whole, with another one changed,", span.Whole(node), api.OK, mapOf([]int{node}))
	}
}

// One map goes from call to call, each of which is spoilt when the next one is over.
func TestAnswersOfAnswers(t *testing.T) {
	m, want := span.Whole(0), span.Whole(0)
	for _, c := range []change{splitting(4, 0, "m"), splitting(4, 0, "c"), moving(4, 1, 2), splitting(4, 2, "x"), moving(4, 0, 2), merging(4, 0), {"Copy(..)", func(m api.Map) (api.Map, api.Errno) { return span.Copy(m), api.OK }}, moving(4, 1, 3), merging(4, 1), moving(4, 2, 3), merging(4, 1), moving(4, 1, 2), merging(4, 0)} {
		next, e := c.do(m)
		wantNext, wantE := c.do(want)
		growMap(m)
		spoilMap(m)
		if !same(next, wantNext) || e != wantE {
			t.Errorf("R3: with the map changed that it was made of, %s is %s with error %d, not %s with error %d", c.name, told(next), e, told(wantNext), wantE)
		}
		if e == api.OK {
			m, want = next, own(wantNext)
		} else {
			m = own(want)
		}
	}
	wantMap(t, "P8.1", "what was made", m, api.OK, span.Whole(2))
}

// A list of no elements means the same, nil or not.
func TestNilAndEmptyLists(t *testing.T) {
	for _, m := range []api.Map{{}, {Nodes: []int{0}}, {Nodes: []int{3}}, {Nodes: []int{-1}}, {Cuts: []string{"m"}}, {Cuts: []string{""}}} {
		empty := m
		if m.Cuts == nil {
			empty.Cuts = []string{}
		}
		if m.Nodes == nil {
			empty.Nodes = []int{}
		}
		for _, c := range mapMakers() {
			got, e := c.do(m)
			if other, e2 := c.do(empty); !same(got, other) || e != e2 {
				t.Errorf("R4: %s is %s with error %d, but with lists that aren't nil %s with error %d", c.of(m), told(got), e, told(other), e2)
			}
		}
		for name, tell := range tellers() {
			if tell(m) != tell(empty) {
				t.Errorf("R4: %s of %s tells %s, but with lists that aren't nil %s", name, told(m), tell(m), tell(empty))
			}
		}
	}
}

// No call panics, at whatever it is handed.
func TestNothingPanics(t *testing.T) {
	calling := "nothing"
	defer func() {
		if thrown := recover(); thrown != nil {
			t.Errorf("R1: %s panics: %v", calling, thrown)
		}
	}()
	for _, m := range append(allMaps(), mapOf(nil, make([]string, 500)...), mapOf(make([]int, 500)), mapOf(make([]int, 500), make([]string, 499)...)) {
		for _, c := range mapMakers() {
			calling = c.of(m)
			c.do(m)
		}
		for name, tell := range tellers() {
			calling = name + " of " + told(m)
			tell(m)
		}
		for _, key := range keysAbout(m) {
			calling = fmt.Sprintf("Find and Owner of %s at %q", told(m), key)
			span.Find(m, key)
			span.Owner(m, key)
		}
		for _, nodes := range noNodes {
			calling = fmt.Sprintf("Check(%s, %d)", told(m), nodes)
			span.Check(m, nodes)
			calling = fmt.Sprintf("At(%s, %d)", told(m), nodes)
			span.At(m, nodes)
		}
	}
}
