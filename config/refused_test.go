package config_test

import (
	"testing"

	"confluence/api"
)

// noKinds are numbers that no kind of command has.
func noKinds() []int { return append(far(), 0, 7, 8, 255, 256+1, 1<<32+1, 1<<32+6) }

// What no kind has is refused ahead of all else: of datacenters that are members, that aren't, and that can't be.
func TestApplyOfNoKind(t *testing.T) {
	for _, pool := range []int{0, 1, 2, 3, 4, 5, -1, lowest, highest} {
		for _, kind := range noKinds() {
			for _, dc := range ints() {
				wantRefused(t, calm(pool, 2, 0, 2), api.ErrKind, api.Cmd{Kind: kind, DC: dc}, api.Cmd{Kind: kind, DC: dc, Shard: 1, Node: 1, Mode: 1, Key: "m"})
			}
		}
	}
	for _, s := range strangeStates() {
		for _, kind := range noKinds() {
			wantRefused(t, s, api.ErrKind, api.Cmd{Kind: kind}, api.Cmd{Kind: kind, DC: 3}, api.Cmd{Kind: kind, DC: -1})
		}
	}
}

// A datacenter that can't be, since it isn't 0 to 3 or isn't below Pool, is refused whatever the kind; also where it is a member.
func TestApplyOfNoDatacenter(t *testing.T) {
	for _, set := range sets() {
		for _, pool := range ints() {
			for _, dc := range ints() {
				if dc >= 0 && dc <= 3 && dc < pool {
					continue
				}
				wantRefused(t, calm(pool, 2, set...), api.ErrDC, eachKind(dc)...)
			}
		}
	}
}

// All else is wrong, too: the map, the numbers, the modes; and the command is of a datacenter that is the only member, or a member already.
func TestApplyOfNoDatacenterWithOtherErrors(t *testing.T) {
	for _, s := range strangeStates() {
		for _, dc := range append(far(), 4, 5, 8) {
			wantRefused(t, s, api.ErrDC, eachKind(dc)...)
			wantRefused(t, s, api.ErrDC, splitting(dc, -1, ""), merging(dc, 9), moving(dc, 0, 9), switching(dc, 9, 9), switching(dc, -1, 0))
		}
		for dc := range 4 {
			for _, set := range [][]int{{}, {dc}, {0, 1, 2, 3}} {
				few := behind(s, hasPool(dc), isMember(false, 0, 1, 2, 3), isMember(true, set...))
				wantRefused(t, few, api.ErrDC, eachKind(dc)...)
				wantRefused(t, few, api.ErrDC, splitting(dc, -1, ""), merging(dc, 9), moving(dc, 0, 9), switching(dc, 9, 9), switching(dc, -1, 0))
			}
		}
	}
}

// Every datacenter below Pool may be one that a command is of: at 3, just below Pool, and where Pool is above 4.
func TestApplyBelowPool(t *testing.T) {
	for _, pool := range []int{1, 2, 3, 4, 5, 6, 20, 1 << 32, 1<<32 + 1, highest} {
		for dc := range min(pool, 4) {
			joined := wantChanged(t, calm(pool, 2), adding(dc), isMember(true, dc), hasMap(dc, mapOf([]int{0})))
			wantRefused(t, joined, api.ErrThere, adding(dc))
			wantRefused(t, joined, api.ErrLast, removing(dc))
			wantChanged(t, joined, splitting(dc, 0, "m"), hasMap(dc, mapOf([]int{0, 0}, "m")))
			wantChanged(t, joined, moving(dc, 0, 1), hasMap(dc, mapOf([]int{1})))
			wantChanged(t, joined, switching(dc, 0, 1), speaks(1, placesOf(dc)[0]))
			wantChanged(t, behind(joined, hasMap(dc, mapOf([]int{1, 1}, "m"))), merging(dc, 0), hasMap(dc, mapOf([]int{1})))
			wantChanged(t, behind(joined, isMember(true, 3-dc)), removing(dc), isMember(false, dc), hasMap(dc, api.Map{}))
		}
	}
}

// All but Add of a datacenter that is no member are refused ahead of what else is wrong, whatever map and modes it has.
func TestApplyOfNoMember(t *testing.T) {
	for _, set := range sets() {
		for _, m := range anyMaps() {
			s := calm(4, 2, set...)
			for dc := range 4 {
				if s.Members[dc] {
					continue
				}
				s := behind(s, hasMap(dc, m))
				wantRefused(t, s, api.ErrDC, eachKind(dc)[1:]...)
			}
		}
	}
	for _, s := range strangeStates() {
		for dc := range 4 {
			for _, set := range [][]int{{}, {(dc + 1) % 4}, {(dc + 1) % 4, (dc + 3) % 4}} {
				s := behind(s, hasPool(4), isMember(false, 0, 1, 2, 3), isMember(true, set...))
				wantRefused(t, s, api.ErrDC, eachKind(dc)[1:]...)
				wantRefused(t, s, api.ErrDC, splitting(dc, -1, ""), splitting(dc, 9, "m"), merging(dc, -1), moving(dc, -1, -1), moving(dc, 0, 9), switching(dc, -1, 0), switching(dc, 9, 9), switching(dc, 0, 2))
			}
		}
	}
}
