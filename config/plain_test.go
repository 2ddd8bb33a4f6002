package config_test

import (
	"strings"
	"testing"

	"confluence/api"
	"confluence/config"
)

func wantPlain(t *testing.T, c, want api.Cmd) {
	t.Helper()
	if got := config.Plain(c); got != want {
		t.Errorf("P18.1: Plain(%s) is %s, not %s", tellCmd(c), tellCmd(got), tellCmd(want))
	}
	if got := config.Plain(want); got != want {
		t.Errorf("P18.1: Plain(%s) is %s", tellCmd(want), tellCmd(got))
	}
}

// Every field is set, each to a number of its own; what stays is written out.
func TestPlainOfEachKind(t *testing.T) {
	for kind, want := range []api.Cmd{
		{Kind: 0, DC: 11},
		{Kind: 1, DC: 11},
		{Kind: 2, DC: 11},
		{Kind: 3, DC: 11, Shard: 12, Key: "key"},
		{Kind: 4, DC: 11, Shard: 12},
		{Kind: 5, DC: 11, Shard: 12, Node: 13},
		{Kind: 6, DC: 11, Node: 13, Mode: 14},
		{Kind: 7, DC: 11},
		{Kind: 8, DC: 11},
	} {
		wantPlain(t, api.Cmd{Kind: kind, DC: 11, Shard: 12, Node: 13, Mode: 14, Key: "key"}, want)
	}
	for _, kind := range append(far(), 1<<32+3, 1<<32+6, 255, 256+5) {
		wantPlain(t, api.Cmd{Kind: kind, DC: 11, Shard: 12, Node: 13, Mode: 14, Key: "key"}, api.Cmd{Kind: kind, DC: 11})
	}
}

// plainly is the command with the fields that are used alone.
func plainly(c api.Cmd) api.Cmd {
	var p api.Cmd
	for _, name := range strings.Fields(used(c.Kind)) {
		switch name {
		case "Kind":
			p.Kind = c.Kind
		case "DC":
			p.DC = c.DC
		case "Shard":
			p.Shard = c.Shard
		case "Node":
			p.Node = c.Node
		case "Mode":
			p.Mode = c.Mode
		case "Key":
			p.Key = c.Key
		}
	}
	return p
}

// Fields of any numbers and keys, right or not.
func TestPlainOfAnyFields(t *testing.T) {
	keys := []string{"", "m", "\x00", "\xff\xfe", strings.Repeat("k", 16), strings.Repeat("k", 5000)}
	n := numbers(18)
	for kind := -1; kind <= 9; kind++ {
		for _, number := range ints() {
			for _, key := range keys {
				for _, c := range []api.Cmd{{DC: number}, {Shard: number}, {Node: number}, {Mode: number}, {Key: key}, {DC: number, Shard: number, Node: number, Mode: number, Key: key}} {
					c.Kind = kind
					wantPlain(t, c, plainly(c))
				}
			}
		}
		for range 300 {
			c := api.Cmd{Kind: kind, DC: one(&n, ints()), Shard: one(&n, ints()), Node: one(&n, ints()), Mode: one(&n, ints()), Key: one(&n, keys)}
			wantPlain(t, c, plainly(c))
		}
	}
	for _, c := range allCmds() {
		wantPlain(t, c, plainly(c))
	}
}
