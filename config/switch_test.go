package config_test

import (
	"slices"
	"testing"

	"confluence/api"
)

// The gate and each node, from each mode to each one, while all other places are Both.
func TestSwitchFromEachModeToEach(t *testing.T) {
	for dc := range 4 {
		for nodes := 1; nodes <= 4; nodes++ {
			for node := 0; node <= nodes; node++ {
				place := placesOf(dc)[node]
				for _, l := range []struct {
					from, to int
					want     api.Errno
				}{
					{1, 1, api.ErrThere}, {1, 2, api.OK}, {1, 3, api.ErrWire},
					{2, 1, api.OK}, {2, 2, api.ErrThere}, {2, 3, api.OK},
					{3, 1, api.ErrWire}, {3, 2, api.OK}, {3, 3, api.ErrThere},
				} {
					s := behind(calm(4, nodes, dc, (dc+1)%4), speaks(l.from, place))
					if l.want != api.OK {
						wantRefused(t, s, l.want, switching(dc, node, l.to))
					} else {
						wantChanged(t, s, switching(dc, node, l.to), speaks(l.to, place))
					}
				}
			}
		}
	}
}

// From modes that are none, a place goes to each one.
func TestSwitchFromNoMode(t *testing.T) {
	for dc := range 4 {
		for node := range 5 {
			for _, from := range modes()[3:] {
				place := placesOf(dc)[node]
				s := behind(calm(4, 4, dc), speaks(from, place))
				for to := 1; to <= 3; to++ {
					wantChanged(t, s, switching(dc, node, to), speaks(to, place))
				}
				// Nor do others with none hinder it.
				all := behind(s, allSpeak(from, 0), allSpeak(from, 1), allSpeak(from, 2), allSpeak(from, 3), speaks(from, 0))
				for to := 1; to <= 3; to++ {
					wantChanged(t, all, switching(dc, node, to), speaks(to, place))
				}
			}
		}
	}
}

// Another place, any of the 21, has some mode: of a member or not, of a node below or above Nodes.
func TestSwitchBesideOnePlace(t *testing.T) {
	for dc := range 4 {
		for node := range 3 {
			place := placesOf(dc)[node]
			for other := range 21 {
				if other == place {
					continue
				}
				for _, from := range modes() {
					for _, mode := range modes() {
						for to := 1; to <= 3; to++ {
							s := behind(calm(4, 2, dc, 3-dc), speaks(from, place), speaks(mode, other))
							hinders := mode == 1 && to == 3 || mode == 3 && to == 1 || from == 1 && to == 3 || from == 3 && to == 1
							switch {
							case from == to:
								wantRefused(t, s, api.ErrThere, switching(dc, node, to))
							case hinders:
								wantRefused(t, s, api.ErrWire, switching(dc, node, to))
							default:
								wantChanged(t, s, switching(dc, node, to), speaks(to, place))
							}
						}
					}
				}
			}
		}
	}
}

// All the others are Elder, or Newer, or of both kinds; one of them is the last that hinders it.
func TestSwitchBesideMany(t *testing.T) {
	for dc := range 4 {
		for node := range 5 {
			place := placesOf(dc)[node]
			elder := behind(calm(4, 4, dc), allSpeak(1, 0), allSpeak(1, 1), allSpeak(1, 2), allSpeak(1, 3), speaks(1, 0), speaks(2, place))
			newer := behind(calm(4, 4, dc), allSpeak(3, 0), allSpeak(3, 1), allSpeak(3, 2), allSpeak(3, 3), speaks(3, 0), speaks(2, place))
			wantRefused(t, elder, api.ErrWire, switching(dc, node, 3))
			wantRefused(t, newer, api.ErrWire, switching(dc, node, 1))
			wantChanged(t, elder, switching(dc, node, 1), speaks(1, place))
			wantChanged(t, newer, switching(dc, node, 3), speaks(3, place))
			mixed := behind(calm(4, 4, dc), mixedModes, speaks(2, place))
			wantRefused(t, mixed, api.ErrWire, switching(dc, node, 1), switching(dc, node, 3))
			wantRefused(t, mixed, api.ErrThere, switching(dc, node, 2))
			for mode := 1; mode <= 3; mode += 2 {
				wantChanged(t, behind(mixed, speaks(mode, place)), switching(dc, node, 2), speaks(2, place))
			}
		}
	}
}

// Numbers of nodes from 0 on and up to Nodes are right, if they aren't above 4; whatever Nodes is.
func TestSwitchOfEachNode(t *testing.T) {
	for _, nodes := range ints() {
		for _, node := range ints() {
			for dc := range 4 {
				s := calm(4, nodes, dc)
				if node < 0 || node > 4 || node > nodes {
					wantRefused(t, s, api.ErrArg, switching(dc, node, 1), switching(dc, node, 2), switching(dc, node, 3), switching(dc, node, 0))
					continue
				}
				wantChanged(t, s, switching(dc, node, 1), speaks(1, placesOf(dc)[node]))
				wantChanged(t, s, switching(dc, node, 3), speaks(3, placesOf(dc)[node]))
				wantRefused(t, s, api.ErrThere, switching(dc, node, 2))
			}
		}
	}
}

// A Mode that is none is refused, also where the place has it already.
func TestSwitchToNoMode(t *testing.T) {
	for dc := range 4 {
		for node := range 5 {
			for _, mode := range append(ints(), 256+1, 256+2) {
				if mode >= 1 && mode <= 3 {
					continue
				}
				s := calm(4, 4, dc)
				wantRefused(t, s, api.ErrArg, switching(dc, node, mode))
				wantRefused(t, behind(s, speaks(mode, placesOf(dc)[node])), api.ErrArg, switching(dc, node, mode))
				wantRefused(t, behind(s, speaks(1, 0), speaks(3, placesOf(dc)[node])), api.ErrArg, switching(dc, node, mode))
			}
		}
	}
}

// ErrArg comes first, then ErrThere, then ErrWire.
func TestSwitchWithSeveralErrors(t *testing.T) {
	for dc := range 4 {
		for node := range 3 {
			place := placesOf(dc)[node]
			for mode := 1; mode <= 3; mode++ {
				s := behind(calm(4, 2, dc, 3-dc), mixedModes, speaks(mode, place))
				wantRefused(t, s, api.ErrThere, switching(dc, node, mode))
				wantRefused(t, s, api.ErrArg, switching(dc, node, mode+3), switching(dc, node, mode-3), switching(dc, 3, mode), switching(dc, 4, mode), switching(dc, 5, mode), switching(dc, -1, mode), switching(dc, 3, mode%3+1), switching(dc, -1, 0))
				wantRefused(t, behind(s, isMember(false, dc)), api.ErrDC, switching(dc, node, mode), switching(dc, node, 0), switching(dc, 9, mode))
			}
			for _, l := range [][2]int{{1, 3}, {3, 1}} {
				s := behind(calm(4, 2, dc), speaks(l[0], 0, 20, place), speaks(l[1], 15))
				wantRefused(t, s, api.ErrWire, switching(dc, node, l[1]))
				wantRefused(t, s, api.ErrThere, switching(dc, node, l[0]))
			}
		}
	}
}

// Maps, right or wrong, are of no matter, and stay.
func TestSwitchWithAnyMaps(t *testing.T) {
	for i, m := range anyMaps() {
		for dc := range 4 {
			s := behind(calm(4, 4, dc), hasMap(dc, m), hasMap((dc+1)%4, anyMaps()[(i+3)%len(anyMaps())]))
			wantChanged(t, s, switching(dc, i%5, 1), speaks(1, placesOf(dc)[i%5]))
			wantRefused(t, s, api.ErrThere, switching(dc, i%5, 2))
		}
	}
}

// All of a cluster go from Elder to Newer, place by place, by way of Both, and back; members alone hinder it.
func TestSwitchOfAWholeCluster(t *testing.T) {
	s := started(t, 4, 3, 2)
	var all [][2]int
	for dc := range 3 {
		for node := range 3 {
			all = append(all, [2]int{dc, node})
		}
	}
	for _, mode := range []int{2, 3, 2, 1} {
		for _, at := range all {
			s = wantChanged(t, s, switching(at[0], at[1], mode), speaks(mode, placesOf(at[0])[at[1]]))
			if mode == 2 && at != all[len(all)-1] {
				end := map[bool]int{true: 3, false: 1}[slices.Contains(s.Modes[:], 1)]
				wantRefused(t, s, api.ErrWire, switching(at[0], at[1], end))
			}
		}
	}
	for dc := 1; dc < 3; dc++ {
		s = wantChanged(t, s, removing(dc), leaves(dc)...)
	}
	for node := range 3 {
		wantRefused(t, s, api.ErrWire, switching(0, node, 3))
		s = wantChanged(t, s, switching(0, node, 2), speaks(2, placesOf(0)[node]))
	}
	wantChanged(t, s, switching(0, 0, 3), speaks(3, 1))
}
