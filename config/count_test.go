package config_test

import (
	"testing"

	"confluence/config"
)

func wantCount(t *testing.T, s config.State, want int) {
	t.Helper()
	was := own(s)
	for range 2 {
		if got := config.Count(s); got != want {
			t.Errorf("P18.1: Count(%s) is %d, not %d", told(was), got, want)
		}
	}
	if !same(s, was) {
		t.Errorf("P18.4: Count makes %s of %s", told(s), told(was))
	}
}

// No member, one, many and all of them, whatever else the configuration has.
func TestCount(t *testing.T) {
	for _, set := range sets() {
		for _, s := range strangeStates() {
			s = behind(s, isMember(false, 0, 1, 2, 3), isMember(true, set...))
			wantCount(t, s, len(set))
			for _, number := range ints() {
				wantCount(t, behind(s, hasPool(number), hasNodes(-number)), len(set))
			}
		}
	}
	wantCount(t, config.State{}, 0)
}

func TestCountBehindCommands(t *testing.T) {
	for members := 1; members <= 4; members++ {
		s := started(t, 4, members, 2)
		wantCount(t, s, members)
		for dc := range 4 {
			next, _ := config.Apply(s, adding(dc))
			if dc >= members {
				wantCount(t, next, members+1)
			}
			next, _ = config.Apply(s, removing(dc))
			if dc < members && members > 1 {
				wantCount(t, next, members-1)
			}
		}
	}
}
