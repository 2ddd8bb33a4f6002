package warden_test

import (
	"slices"
	"testing"
)

// floorBehind wants the Floor that goes to datacenter 3 behind the Acks of 0, 1 and 2 with these stamps, that come in this order.
func floorBehind(t *testing.T, stamps [3]uint64, order []int) {
	t.Helper()
	s := over(t, calm(0, 1, 2))
	s.asks(0, adding(3))
	s.w.Out()
	for _, dc := range order {
		s.out()
		s.take(dc, ack(1, stamps[dc]))
	}
	s.out(floor(3, 1, slices.Max(stamps[:])))
}

// It is the greatest stamp of the Acks, in whatever order they come.
func TestFloor(t *testing.T) {
	for _, a := range moments() {
		for _, b := range moments() {
			for _, c := range []uint64{0, 5, latest} {
				orders([]int{0, 1, 2}, func(order []int) { floorBehind(t, [3]uint64{a, b, c}, order) })
			}
		}
	}
	floorBehind(t, [3]uint64{}, []int{2, 1, 0})
}

// It goes to the gate that joins, whichever it is, and to nobody else, once.
func TestFloorOfEachThatJoins(t *testing.T) {
	for _, set := range sets() {
		for dc := range 4 {
			if slices.Contains(set, dc) {
				continue
			}
			s := over(t, calm(set...))
			s.asks(0, adding(dc))
			mail := s.w.Out()
			for i, member := range set {
				if i > 0 {
					s.out()
				}
				s.take(member, ack(1, uint64(7+member)))
			}
			if len(set) == 0 {
				if last := mail[len(mail)-1]; !sameMail(last, floor(dc, 1, 0)) {
					s.wrong("Out answered %s", tellMail(mail))
				}
				continue
			}
			s.out(floor(dc, 1, uint64(7+slices.Max(set))))
			s.ignores(set[0], ack(1, 900))
			s.ignores(dc, ack(1, 900))
		}
	}
}

// The other kinds have none.
func TestNoFloor(t *testing.T) {
	for _, k := range kinds() {
		if k.cmd.Kind == 1 {
			continue
		}
		s := over(t, base())
		s.asks(0, k.cmd)
		s.through(k.cmd, 1, []int{0, 1, 2}, 0, 1, 2)
		for _, m := range s.w.Out() {
			if m.Msg.Kind != 21 {
				s.wrong("it sends %s", tellMsg(m.Msg))
			}
		}
	}
}

// What doesn't count doesn't raise the mark: Acks of others, of other epochs, doubled ones, and other kinds.
func TestTheMarkIsRaisedByWhatCounts(t *testing.T) {
	s := over(t, calm(0, 1))
	s.asks(0, adding(2))
	s.w.Out()
	s.acks(1, 50, 0)
	late := filled(caught(1))
	late.TS = 400
	s.ignores(0, ack(1, 100), ack(0, 200), ack(2, 300), late)
	s.ignores(1, ack(0, 101), ack(2, 201))
	s.ignores(2, ack(1, 102), late)
	s.ignores(3, ack(1, 103))
	s.ignores(-1, ack(1, 104))
	s.ignores(4, ack(1, 105))
	s.acks(1, 40, 1)
	s.out(floor(2, 1, 50))
}

// Each command's mark begins at 0, whatever was said of those ahead of it.
func TestTheMarkBeginsAnew(t *testing.T) {
	s := over(t, calm(0, 1))
	s.asks(0, splitting(0, 0, "k"), adding(2), adding(3), removing(1), adding(1))
	s.acks(1, 1000, 0, 1)
	s.w.Out()
	s.acks(2, 5, 0)
	s.acks(2, 4, 1)
	s.out(floor(2, 2, 5))
	s.take(2, caught(2))
	s.acks(3, 2000, 0, 1, 2)
	s.w.Out()
	s.acks(4, 3, 0, 1)
	s.acks(4, 2, 2)
	s.out(floor(3, 4, 3))
	s.take(3, caught(4))
	s.acks(5, 3000, 0, 1, 2, 3)
	s.acks(6, 4000, 0, 1, 2, 3)
	s.take(1, drained(6))
	s.acks(7, 5000, 0, 1, 2, 3)
	s.w.Out()
	s.acks(8, 0, 0, 2)
	s.acks(8, 1, 3)
	s.out(floor(1, 8, 1))
}

// One that joins again has a Floor by what is said then.
func TestTheFloorOfOneThatJoinsAgain(t *testing.T) {
	s, epoch := over(t, calm(0, 1)), uint64(1)
	for round := range uint64(6) {
		s.asks(2*int(round), adding(2), removing(2))
		s.w.Out()
		s.acks(epoch, 60-round, 0)
		s.acks(epoch, 50-2*round, 1)
		s.out(floor(2, epoch, 60-round))
		s.take(2, caught(epoch))
		s.acks(epoch+1, 900, 2, 1, 0)
		s.acks(epoch+2, 800, 2, 1, 0)
		s.take(2, drained(epoch+2))
		s.acks(epoch+3, 700, 2, 1, 0)
		s.idle(2*int(round)+2, calm(0, 1))
		epoch += 4
	}
}
