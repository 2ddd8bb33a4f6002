package stab_test

import (
	"fmt"
	"testing"

	"confluence/api"
	"confluence/stab"
)

// strangeCalls are calls with numbers and times of all kinds.
func strangeCalls() []call {
	l := []call{}
	for _, time := range moments() {
		l = append(l, lift(time))
		for _, at := range append(noDCs(), 0, 1, 2, 3) {
			l = append(l, beat(at, time), got(at, time))
			for _, epoch := range []int{lowest, -1, 0, 1, highest} {
				l = append(l, told(at, epoch, time))
			}
		}
	}
	for _, at := range append(noDCs(), 0, 1, 2, 3) {
		for _, epoch := range epochs() {
			l = append(l, join(at, epoch), leave(at, epoch))
		}
	}
	return l
}

// A nil table's calls do nothing and answer noughts, its Join and Leave ErrArg whatever else is wrong.
func TestNilTable(t *testing.T) {
	s := &scene{t, nil, "P12.1", []string{"a nil table"}}
	s.want(known{})
	for _, c := range strangeCalls() {
		want := api.OK
		if c.name == "Join" || c.name == "Leave" {
			want = api.ErrArg
		}
		s.wantUnchanged(want, c)
	}
	s.want(known{})
}

func TestNothingPanics(t *testing.T) {
	doing := "a new table"
	defer func() {
		if thrown := recover(); thrown != nil {
			t.Errorf("R1: %s panics: %v", doing, thrown)
		}
	}()
	for own := range 4 {
		for nodes := 1; nodes <= 4; nodes++ {
			for _, has := range allMembers() {
				b, _ := stab.New(own, nodes, has)
				for _, c := range strangeCalls() {
					doing = fmt.Sprintf("%s of New(%d, %d, %v)", c, own, nodes, has)
					c.of(b)
					look(b)
				}
			}
		}
	}
	for _, at := range append(noDCs(), 0, 1, 2, 3) {
		for _, nodes := range append(noDCs(), 0, 1, 2, 3) {
			doing = fmt.Sprintf("New(%d, %d)", at, nodes)
			stab.New(at, nodes, who(0, 3))
		}
	}
}
