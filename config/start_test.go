package config_test

import (
	"testing"

	"confluence/api"
	"confluence/config"
)

func TestExamples(t *testing.T) {
	s := started(t, 2, 1, 2)
	wantRefused(t, s, api.ErrLast, removing(0))
	s = wantChanged(t, s, adding(1), isMember(true, 1), hasMap(1, mapOf([]int{0})), allSpeak(2, 1))
	wantRefused(t, s, api.ErrThere, adding(1))
	s = wantChanged(t, s, moving(0, 0, 1), hasMap(0, mapOf([]int{1})))
	wantRefused(t, s, api.ErrWire, switching(0, 0, 3))
}

// The numbers are written out for some beginnings.
func TestStartOfSome(t *testing.T) {
	for _, l := range []struct {
		pool, members, nodes int
		has                  [4]bool
		modes                [21]int
	}{
		{1, 1, 1, [4]bool{true}, [21]int{2, 1, 1, 2, 2, 2, 2, 2, 2, 2, 2, 2, 2, 2, 2, 2, 2, 2, 2, 2, 2}},
		{4, 1, 3, [4]bool{true}, [21]int{2, 1, 1, 1, 1, 2, 2, 2, 2, 2, 2, 2, 2, 2, 2, 2, 2, 2, 2, 2, 2}},
		{2, 2, 2, [4]bool{true, true}, [21]int{2, 1, 1, 1, 2, 2, 1, 1, 1, 2, 2, 2, 2, 2, 2, 2, 2, 2, 2, 2, 2}},
		{3, 3, 4, [4]bool{true, true, true}, [21]int{2, 1, 1, 1, 1, 1, 1, 1, 1, 1, 1, 1, 1, 1, 1, 1, 2, 2, 2, 2, 2}},
		{4, 4, 1, [4]bool{true, true, true, true}, [21]int{2, 1, 1, 2, 2, 2, 1, 1, 2, 2, 2, 1, 1, 2, 2, 2, 1, 1, 2, 2, 2}},
		{4, 4, 4, [4]bool{true, true, true, true}, [21]int{2, 1, 1, 1, 1, 1, 1, 1, 1, 1, 1, 1, 1, 1, 1, 1, 1, 1, 1, 1, 1}},
	} {
		want := config.State{Pool: l.pool, Nodes: l.nodes, Members: l.has, Modes: l.modes}
		for dc, is := range l.has {
			if is {
				want.Maps[dc] = mapOf([]int{0})
			}
		}
		wantStart(t, l.pool, l.members, l.nodes, want, api.OK)
	}
}

func wantStart(t *testing.T, pool, members, nodes int, want config.State, wantE api.Errno) {
	t.Helper()
	got, e := config.Start(pool, members, nodes)
	if e != wantE {
		t.Errorf("P18.1: Start(%d, %d, %d) has error %d, not %d", pool, members, nodes, int(e), int(wantE))
	}
	if same(got, want) {
		return
	}
	if wantE != api.OK {
		t.Errorf("R5: Start(%d, %d, %d) is %s beside error %d", pool, members, nodes, told(got), int(e))
		return
	}
	t.Errorf("P18.1: Start(%d, %d, %d) is %s, not %s", pool, members, nodes, told(got), told(want))
}

// All that is right.
func TestStart(t *testing.T) {
	for pool := 1; pool <= 4; pool++ {
		for members := 1; members <= pool; members++ {
			for nodes := 1; nodes <= 4; nodes++ {
				want := calm(pool, nodes)
				for dc := range members {
					isMember(true, dc)(&want)
					hasMap(dc, mapOf([]int{0}))(&want)
					places := placesOf(dc)
					speaks(1, places[:nodes+1]...)(&want)
				}
				wantStart(t, pool, members, nodes, want, api.OK)
			}
		}
	}
}

// All numbers from below 1 to above 4, and at both ends, with one another.
func TestStartOfWrongNumbers(t *testing.T) {
	for _, pool := range ints() {
		for _, members := range ints() {
			for _, nodes := range ints() {
				if pool >= 1 && pool <= 4 && members >= 1 && members <= pool && nodes >= 1 && nodes <= 4 {
					continue
				}
				wantStart(t, pool, members, nodes, config.State{}, api.ErrArg)
			}
		}
	}
}

// Each of the three at its bounds, while the others are right.
func TestStartAtItsBounds(t *testing.T) {
	for _, l := range []struct {
		pool, members, nodes int
		right                bool
	}{
		{0, 1, 1, false}, {1, 1, 1, true}, {4, 1, 1, true}, {5, 1, 1, false}, {-1, 1, 1, false},
		{0, 0, 1, false}, {1, 0, 1, false}, {4, 0, 1, false}, {1, 2, 1, false}, {2, 2, 1, true}, {2, 3, 1, false}, {3, 3, 1, true}, {3, 4, 1, false}, {4, 4, 1, true}, {4, 5, 1, false}, {5, 5, 1, false}, {4, -1, 1, false},
		{2, 1, 0, false}, {2, 1, 4, true}, {2, 1, 5, false}, {2, 1, -1, false},
	} {
		_, e := config.Start(l.pool, l.members, l.nodes)
		if e != api.OK && e != api.ErrArg || (e == api.OK) != l.right {
			t.Errorf("P18.1: Start(%d, %d, %d) has error %d", l.pool, l.members, l.nodes, int(e))
		}
	}
}
