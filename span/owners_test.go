package span_test

import (
	"fmt"
	"slices"
	"testing"

	"confluence/api"
	"confluence/span"
)

// made makes a change that is to be right, and holds that what it answers is (P8.2, P8.4).
func made(t *testing.T, promise string, m api.Map, nodes int, c change) api.Map {
	t.Helper()
	got, e := c.do(m)
	wantError(t, promise, c.of(m), e, api.OK)
	wantError(t, "P8.4", "Check of "+told(got)+" behind "+c.of(m), span.Check(got, nodes), api.OK)
	wantParted(t, "P8.2", got, keysAbout(m))
	return got
}

func wantSameOwners(t *testing.T, call string, before, behind api.Map) {
	t.Helper()
	for _, key := range append(keysAbout(before), append(keysAbout(behind), shortTexts()...)...) {
		if a, b := span.Owner(before, key), span.Owner(behind, key); a != b {
			t.Errorf("P8.3: behind %s the owner of %q is %d, not %d", call, key, b, a)
		}
	}
}

// pointsIn are keys that cut a shard in two.
func pointsIn(m api.Map, s span.Shard) []string {
	var l []string
	for _, key := range append(keysAbout(m), shortTexts()...) {
		if len(key) <= 16 && above(key, s.Lo) && (s.Hi == "" || above(s.Hi, key)) && !slices.Contains(l, key) {
			l = append(l, key)
		}
	}
	return l
}

func TestSplitThenMerge(t *testing.T) {
	for _, m := range rightMaps() {
		if len(m.Nodes) == 8 {
			continue
		}
		for _, s := range shardsOf(m) {
			for _, key := range pointsIn(m, s.shard) {
				c := splitting(4, s.number, key)
				split := made(t, "P8.1", m, 4, c)
				wantSameOwners(t, c.of(m), m, split)
				back := made(t, "P8.3", split, 4, merging(4, s.number))
				wantMap(t, "P8.3", "Merge behind "+c.of(m), back, api.OK, m)
			}
		}
	}
}

func TestMergeThenSplit(t *testing.T) {
	count := 0
	for _, m := range rightMaps() {
		for i, cut := range m.Cuts {
			if m.Nodes[i] != m.Nodes[i+1] {
				continue
			}
			count++
			c := merging(4, i)
			merged := made(t, "P8.1", m, 4, c)
			wantSameOwners(t, c.of(m), m, merged)
			back := made(t, "P8.3", merged, 4, splitting(4, i, cut))
			wantMap(t, "P8.3", "Split behind "+c.of(m), back, api.OK, m)
		}
	}
	if count < 10 {
		t.Errorf("P8.3: only %d pairs could be merged", count)
	}
}

func TestMoveChangesTheShardsKeysAlone(t *testing.T) {
	for _, m := range rightMaps() {
		for _, s := range shardsOf(m) {
			for node := range 4 {
				if node == s.shard.Node {
					continue
				}
				c := moving(4, s.number, node)
				moved := made(t, "P8.1", m, 4, c)
				for _, key := range append(keysAbout(m), shortTexts()...) {
					want := span.Owner(m, key)
					if !above(s.shard.Lo, key) && (s.shard.Hi == "" || above(s.shard.Hi, key)) {
						want = node
					}
					if got := span.Owner(moved, key); got != want {
						t.Errorf("P8.3: behind %s the owner of %q is %d, not %d", c.of(m), key, got, want)
					}
				}
				back := made(t, "P8.3", moved, 4, moving(4, s.number, s.shard.Node))
				wantMap(t, "P8.3", "Move back behind "+c.of(m), back, api.OK, m)
			}
		}
	}
}

// A shard that is cut, of which one part goes to another node, is made one again when that part is back.
func TestPartsThatMove(t *testing.T) {
	m := span.Whole(1)
	split := made(t, "P8.1", m, 2, splitting(2, 0, "m"))
	for part := range 2 {
		moved := made(t, "P8.1", split, 2, moving(2, part, 0))
		got, e := span.Merge(moved, 2, 0)
		wantRefused(t, "P8.1", "Merge of "+told(moved), got, e, api.ErrAway)
		other := made(t, "P8.1", moved, 2, moving(2, 1-part, 0))
		wantMap(t, "P8.1", "Merge", made(t, "P8.1", other, 2, merging(2, 0)), api.OK, span.Whole(0))
		back := made(t, "P8.1", moved, 2, moving(2, part, 1))
		wantMap(t, "P8.3", "Merge", made(t, "P8.3", back, 2, merging(2, 0)), api.OK, m)
	}
}

// All that Split, Merge and Move make of right maps, whatever they are asked.
func TestWhatIsMadeIsRight(t *testing.T) {
	seen := map[string]int{}
	for _, m := range rightMaps() {
		for nodes := 1; nodes <= 4; nodes++ {
			for _, c := range changes(nodes) {
				got, e := c.do(m)
				if e != api.OK {
					wantRefused(t, "P8.1", c.of(m), got, e, e)
					continue
				}
				seen[c.name[:4]]++
				wantError(t, "P8.4", "Check of "+told(got)+" behind "+c.of(m), span.Check(got, nodes), api.OK)
			}
		}
	}
	if len(seen) != 3 {
		t.Errorf("P8.4: only %v were made", seen)
	}
}

func ExampleMove() {
	m, _ := span.Split(span.Whole(0), 2, 0, "m")
	m, e := span.Move(m, 2, 1, 1)
	fmt.Printf("%q %v %d\n", m.Cuts, m.Nodes, e)
	// Output: ["m"] [0 1] 0
}
