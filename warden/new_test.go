package warden_test

import (
	"testing"

	"confluence/api"
	"confluence/config"
)

// started is what Start answers.
func started(t *testing.T, pool, members, nodes int) config.State {
	t.Helper()
	s, e := config.Start(pool, members, nodes)
	if e != api.OK {
		t.Fatalf("P18.1: Start(%d, %d, %d) has error %d", pool, members, nodes, int(e))
	}
	return s
}

// The chapter's examples, with all that is told on the way.
func TestExamples(t *testing.T) {
	first := started(t, 1, 1, 1)
	cut := behind(first, hasMap(0, mapOf([]int{0, 0}, "m")))
	s := over(t, first)
	s.asks(0, splitting(0, 0, "m"))
	s.out(api.Mail{To: 1, Msg: api.Msg{Kind: api.Entry, Id: 1, N: 1, Cmd: api.Cmd{Kind: api.Split, Key: "m"}, Vec: []uint64{1, 2, 1, 1, 2, 2, 2, 2, 2, 2, 2, 2, 2, 2, 2, 2, 2, 2, 2, 2, 2, 2}}})
	s.busy(0, 1, first, cut, cut)
	s.take(0, api.Msg{Kind: api.Ack, Id: 1})
	s.out()
	s.idle(1, cut)
	s.refuses(api.ErrThere, adding(0))
}

// A warden that was just made has brought nothing through, and has nothing to send, whatever its configuration.
func TestNew(t *testing.T) {
	for _, was := range strangeStates() {
		s := over(t, was)
		s.idle(0, was)
		s.out()
		s.idle(0, was)
	}
	for _, set := range sets() {
		for place := range 21 {
			for _, mode := range modes() {
				was := behind(calm(set...), speaks(mode, place))
				over(t, was).idle(0, was)
			}
		}
	}
}

// Nothing that a gate may say does anything to it.
func TestNewHearsNothing(t *testing.T) {
	for _, was := range strangeStates() {
		s := over(t, was)
		for dc := -1; dc <= 4; dc++ {
			for _, id := range []uint64{0, 1, 2, latest} {
				s.ignores(dc, ack(id, 9), caught(id), drained(id))
			}
		}
		s.idle(0, was)
	}
}
