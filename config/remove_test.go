package config_test

import (
	"testing"

	"confluence/api"
)

// leaves are what a Remove changes.
func leaves(dc int) []change {
	return []change{isMember(false, dc), hasMap(dc, api.Map{}), allSpeak(2, dc)}
}

// The only member, one of two, the first one, the last one, and those in the midst.
func TestRemoveFromAnyMembers(t *testing.T) {
	for nodes := 1; nodes <= 4; nodes++ {
		for _, set := range sets() {
			s := calm(4, nodes, set...)
			for _, dc := range set {
				if len(set) == 1 {
					wantRefused(t, s, api.ErrLast, removing(dc))
				} else {
					wantChanged(t, s, removing(dc), leaves(dc)...)
				}
			}
		}
	}
}

// One by one, in any order, until one is left.
func TestRemoveOneByOne(t *testing.T) {
	for first := range 4 {
		for _, step := range []int{1, 3} {
			s := started(t, 4, 4, 3)
			for k := range 3 {
				dc := (first + k*step) % 4
				s = wantChanged(t, s, removing(dc), leaves(dc)...)
				wantRefused(t, s, api.ErrDC, eachKind(dc)[1:]...)
			}
			wantRefused(t, s, api.ErrLast, removing((first+3*step)%4))
		}
	}
}

// Whatever map the leaver has; the others' maps stay, be they members or not.
func TestRemoveWithAnyMap(t *testing.T) {
	for i, m := range anyMaps() {
		other := anyMaps()[(i+7)%len(anyMaps())]
		for dc := range 4 {
			s := behind(calm(4, 4, dc, (dc+1)%4), hasMap(dc, m), hasMap((dc+1)%4, other), hasMap((dc+2)%4, m))
			wantChanged(t, s, removing(dc), leaves(dc)...)
			wantChanged(t, s, removing((dc+1)%4), leaves((dc+1)%4)...)
			wantRefused(t, behind(s, isMember(false, (dc+1)%4)), api.ErrLast, removing(dc))
		}
	}
}

// Whatever modes the places of the leaver have, all five are Both behind it; those of the others stay.
func TestRemoveWithAnyModes(t *testing.T) {
	for dc := range 4 {
		for _, mode := range modes() {
			for nodes := 0; nodes <= 5; nodes++ {
				s := calm(4, nodes, dc, (dc+2)%4)
				wantChanged(t, behind(s, allSpeak(mode, dc)), removing(dc), leaves(dc)...)
				for place := range 21 {
					wantChanged(t, behind(s, allSpeak(4-mode, dc), speaks(mode, place)), removing(dc), leaves(dc)...)
				}
			}
		}
	}
}

func TestRemoveFromStrangeConfigurations(t *testing.T) {
	for _, s := range strangeStates() {
		for dc := range 4 {
			for _, nodes := range ints() {
				two := behind(s, hasPool(4), hasNodes(nodes), isMember(true, dc, (dc+1)%4))
				wantChanged(t, two, removing(dc), leaves(dc)...)
				alone := behind(two, isMember(false, 0, 1, 2, 3), isMember(true, dc))
				wantRefused(t, alone, api.ErrLast, removing(dc))
			}
		}
	}
}

// A member that isn't below Pool is one, too.
func TestRemoveBesideAMemberAbovePool(t *testing.T) {
	for dc := range 3 {
		for above := dc + 1; above < 4; above++ {
			wantChanged(t, calm(dc+1, 2, dc, above), removing(dc), leaves(dc)...)
			wantRefused(t, calm(dc+1, 2, dc), api.ErrLast, removing(dc))
		}
	}
}
