package config_test

import (
	"testing"

	"confluence/api"
	"confluence/config"
)

func wantCopy(t *testing.T, s config.State) {
	t.Helper()
	was := own(s)
	if got := config.Copy(s); !same(got, was) {
		t.Errorf("P18.1: Copy(%s) is %s", told(was), told(got))
	}
	if !same(s, was) {
		t.Errorf("P18.4: Copy makes %s of %s", told(s), told(was))
	}
}

// Whatever numbers, members, maps and modes it has.
func TestCopy(t *testing.T) {
	for _, s := range strangeStates() {
		wantCopy(t, s)
		for _, number := range ints() {
			wantCopy(t, behind(s, hasPool(number)))
			wantCopy(t, behind(s, hasNodes(number)))
			for place := range 21 {
				wantCopy(t, behind(s, speaks(number, place)))
			}
		}
		for _, set := range sets() {
			wantCopy(t, behind(s, isMember(false, 0, 1, 2, 3), isMember(true, set...)))
		}
	}
}

// Maps of no shard, of one and of many, right and wrong, of members and of others.
func TestCopyOfMaps(t *testing.T) {
	for _, m := range anyMaps() {
		for dc := range 4 {
			for _, set := range sets() {
				wantCopy(t, behind(calm(4, 4, set...), hasMap(dc, m)))
				wantCopy(t, behind(calm(1, 1, set...), hasMap(dc, m), hasMap((dc+1)%4, lettered(5, 3))))
				wantCopy(t, behind(config.State{}, hasMap(dc, m)))
			}
		}
	}
	wantCopy(t, behind(calm(4, 4), hasMap(2, api.Map{Cuts: make([]string, 500), Nodes: make([]int, 700)})))
}
