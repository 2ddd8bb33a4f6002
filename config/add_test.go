package config_test

import (
	"testing"

	"confluence/api"
)

// joins are what an Add changes.
func joins(dc int) []change {
	return []change{isMember(true, dc), hasMap(dc, mapOf([]int{0})), allSpeak(2, dc)}
}

func TestAddToAnyMembers(t *testing.T) {
	for pool := 1; pool <= 4; pool++ {
		for nodes := 1; nodes <= 4; nodes++ {
			for _, set := range sets() {
				s := calm(pool, nodes, set...)
				for dc := range pool {
					if s.Members[dc] {
						wantRefused(t, s, api.ErrThere, adding(dc))
					} else {
						wantChanged(t, s, adding(dc), joins(dc)...)
					}
				}
			}
		}
	}
}

// Whatever map the datacenter had ahead of it, and whatever maps the others have.
func TestAddWithAnyMap(t *testing.T) {
	for i, m := range anyMaps() {
		other := anyMaps()[(i+5)%len(anyMaps())]
		for dc := range 4 {
			for _, set := range [][]int{{}, {(dc + 1) % 4}, {(dc + 1) % 4, (dc + 2) % 4, (dc + 3) % 4}} {
				s := behind(calm(4, 2, set...), hasMap((dc+1)%4, other), hasMap((dc+2)%4, m), hasMap(dc, m))
				wantChanged(t, s, adding(dc), joins(dc)...)
			}
		}
	}
}

// Whatever modes the places of the datacenter had, all five are Both; those of the others stay.
func TestAddWithAnyModes(t *testing.T) {
	for dc := range 4 {
		for _, mode := range modes() {
			for nodes := 0; nodes <= 5; nodes++ {
				s := calm(4, nodes, (dc+1)%4)
				wantChanged(t, behind(s, allSpeak(mode, dc)), adding(dc), joins(dc)...)
				for _, place := range placesOf(dc) {
					wantChanged(t, behind(s, speaks(mode, place)), adding(dc), joins(dc)...)
				}
				for place := range 21 {
					wantChanged(t, behind(s, allSpeak(4-mode, dc), speaks(mode, place)), adding(dc), joins(dc)...)
				}
			}
		}
	}
}

// Places that are Elder, Newer, both or neither don't hinder it.
func TestAddToStrangeConfigurations(t *testing.T) {
	for _, s := range strangeStates() {
		for dc := range 4 {
			for _, pool := range []int{dc + 1, 4, 9, highest} {
				for _, nodes := range ints() {
					s := behind(s, hasPool(pool), hasNodes(nodes), isMember(false, dc))
					wantChanged(t, s, adding(dc), joins(dc)...)
				}
			}
		}
	}
}

// A member isn't added again, whatever its map and its modes are.
func TestAddOfAMember(t *testing.T) {
	for _, s := range strangeStates() {
		for dc := range 4 {
			wantRefused(t, behind(s, hasPool(dc+1), isMember(true, dc)), api.ErrThere, adding(dc))
			wantRefused(t, behind(s, hasPool(4), isMember(true, dc), hasMap(dc, api.Map{})), api.ErrThere, adding(dc))
			wantRefused(t, behind(s, hasPool(highest), isMember(true, 0, 1, 2, 3), allSpeak(2, dc)), api.ErrThere, adding(dc))
		}
	}
}

// What joins when it has left is as new, and has nothing of what it had.
func TestAddOfWhatHasLeft(t *testing.T) {
	for dc := range 4 {
		s := started(t, 4, 4, 2)
		for _, c := range []struct {
			cmd     api.Cmd
			changes []change
		}{
			{splitting(dc, 0, "m"), []change{hasMap(dc, mapOf([]int{0, 0}, "m"))}},
			{moving(dc, 1, 1), []change{hasMap(dc, mapOf([]int{0, 1}, "m"))}},
			{switching(dc, 1, 2), []change{speaks(2, placesOf(dc)[1])}},
			{removing(dc), []change{isMember(false, dc), hasMap(dc, api.Map{}), allSpeak(2, dc)}},
			{adding(dc), joins(dc)},
		} {
			s = wantChanged(t, s, c.cmd, c.changes...)
		}
		wantRefused(t, s, api.ErrThere, adding(dc))
	}
}
