package config_test

import (
	"fmt"
	"testing"

	"confluence/api"
	"confluence/config"
)

// wantNoPanic is deferred by a test; what tells what the test was doing.
func wantNoPanic(t *testing.T, thrown any, what func() string) {
	if thrown != nil {
		t.Errorf("R1: %s panics: %v", what(), thrown)
	}
}

func TestStartAndPlainNeverPanic(t *testing.T) {
	var a, b, c int
	defer func() {
		wantNoPanic(t, recover(), func() string { return fmt.Sprintf("Start(%d, %d, %d), or Plain", a, b, c) })
	}()
	for _, a = range ints() {
		for _, b = range ints() {
			for _, c = range ints() {
				config.Start(a, b, c)
			}
		}
	}
	for _, c := range allCmds() {
		config.Plain(c)
	}
}

// anyNumbers are configurations of any numbers.
func anyNumbers() []config.State {
	l := strangeStates()
	for _, number := range ints() {
		l = append(l, behind(calm(number, number, 0, 1, 2, 3), speaks(number, 0, 1, 7, 20)))
	}
	huge := calm(4, 4, 0, 1, 2, 3)
	huge.Maps[1] = api.Map{Cuts: make([]string, 400), Nodes: make([]int, 401)}
	huge.Maps[2] = api.Map{Nodes: make([]int, 500)}
	return append(l, huge)
}

func TestCallsOfAnyConfigurationNeverPanic(t *testing.T) {
	var s config.State
	var c api.Cmd
	defer func() {
		wantNoPanic(t, recover(), func() string { return fmt.Sprintf("Count, Copy, or Apply(%s, %s)", told(s), tellCmd(c)) })
	}()
	for _, s = range anyNumbers() {
		config.Count(s)
		config.Copy(s)
		for _, c = range allCmds() {
			config.Apply(s, c)
		}
	}
	n := numbers(190)
	for range 50000 {
		s = anyState(&n)
		s.Pool, s.Nodes = one(&n, ints()), one(&n, ints())
		c = api.Cmd{Kind: n.below(9) - 1, DC: mostly(&n, 5), Shard: one(&n, ints()), Node: one(&n, ints()), Mode: one(&n, ints()), Key: one(&n, someKeys())}
		config.Apply(s, c)
	}
}
