package warden_test

import (
	"fmt"
	"strings"
	"testing"

	"confluence/api"
	"confluence/config"
	"confluence/warden"
)

// strangeCmds are commands of all kinds, with numbers and keys of all kinds.
func strangeCmds() []api.Cmd {
	var l []api.Cmd
	for _, kind := range append(ints(), 1, 2, 3, 4, 5, 6) {
		for _, dc := range []int{0, 1, 3, 4, -1, lowest, highest} {
			for _, number := range []int{0, 1, 2, 3, 7, -1, lowest, highest} {
				l = append(l, api.Cmd{Kind: kind, DC: dc, Shard: number, Node: number, Mode: number}, api.Cmd{Kind: kind, DC: dc, Shard: 0, Node: number, Mode: 3, Key: "m"})
			}
			l = append(l, api.Cmd{Kind: kind, DC: dc, Key: strings.Repeat("\xff", 5000)}, api.Cmd{Kind: kind, DC: dc, Mode: 2, Key: "\x00"})
		}
	}
	return l
}

// strangeMsgs are messages of all kinds and of many epochs.
func strangeMsgs() []api.Msg {
	var l []api.Msg
	for _, kind := range append(ints(), 21, 22, 23, 24, 25, 26) {
		for _, id := range append(moments(), 3, 4, 7) {
			l = append(l, api.Msg{Kind: kind, Id: id, TS: id}, filled(api.Msg{Kind: kind, Id: id, TS: latest}))
		}
	}
	return l
}

// Of a nil warden Ask answers ErrArg, whatever else is wrong, and the others nothing.
func TestNilWarden(t *testing.T) {
	s := &scene{T: t, promise: "P19.1", start: "a nil warden"}
	for range 2 {
		s.wantView(view{})
		s.out()
		for _, c := range append(strangeCmds(), adding(0), removing(0), splitting(0, 0, "m"), merging(0, 0), moving(0, 0, 1), switching(0, 0, 2)) {
			s.refuses(api.ErrArg, c)
		}
		for dc := range 6 {
			s.ignores(dc-1, strangeMsgs()...)
			s.ignores(dc-1, ack(0, 1), ack(1, 1), caught(0), drained(0))
		}
		s.done = nil
	}
}

// asks asks a warden all that may be asked.
func asks(w *warden.Warden) {
	viewOf(w)
	w.Out()
}

func TestNothingPanics(t *testing.T) {
	doing := func() string { return "a new warden" }
	defer func() {
		if thrown := recover(); thrown != nil {
			t.Errorf("R1: %s panics: %v", doing(), thrown)
		}
	}()
	for i, first := range strangeStates() {
		w := warden.New(first)
		asks(w)
		for _, c := range strangeCmds() {
			doing = func() string { return fmt.Sprintf("Ask(%s) over %s", tellCmd(c), told(first)) }
			w.Ask(c)
			warden.New(first).Ask(c)
		}
		for _, m := range strangeMsgs() {
			for _, dc := range append(ints(), -1) {
				doing = func() string { return fmt.Sprintf("Take(%d, %s) over %s", dc, tellMsg(m), told(first)) }
				w.Take(dc, m)
			}
		}
		asks(w)
		doing = func() string { return "a row of commands over " + told(first) }
		n := numbers(210 + i)
		for range 300 {
			w.Ask(anyCmd(&n, w.Tail()))
			w.Take(n.below(4), anyAnswer(&n, uint64(n.below(40))))
			asks(w)
		}
	}
	for _, a := range ints() {
		for _, b := range ints() {
			doing = func() string { return fmt.Sprintf("Narrow(%d, %d)", a, b) }
			warden.Narrow(a, b)
		}
	}
	doing = func() string { return "a warden of no configuration" }
	asks(warden.New(config.State{}))
}
