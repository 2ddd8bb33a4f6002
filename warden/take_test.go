package warden_test

import (
	"testing"

	"confluence/api"
	"confluence/config"
)

// otherIds are none of the last entry's, whose epoch is this.
func otherIds(epoch uint64) []uint64 {
	l := []uint64{0, epoch - 1, epoch + 1, epoch + 2, -epoch, latest, latest - 1, epoch + 1<<32, epoch + 1<<63, epoch << 1}
	for earlier := range epoch {
		l = append(l, earlier)
	}
	return l
}

// stage is a warden over base with a command in some stage: who is waited for, and for what.
type stage struct {
	name string
	cmd  api.Cmd
	// then is the configuration behind the command.
	then config.State
	// epoch is the last entry's.
	epoch uint64
	// awaits are the gates whose Acks are waited for, and mark is the greatest stamp of those that came.
	awaits []int
	mark   uint64
	// word is the kind that the command's datacenter has to say, now or also behind the Acks; 0: none counts.
	word  int
	reach func(s *scene)
}

// stages are all of them that a command may be in.
func stages() []stage {
	var l []stage
	for _, k := range kinds() {
		c := k.cmd
		then := behind(base(), k.change)
		word := map[int]int{2: 25}[c.Kind]
		asked := func(s *scene) { s.asks(0, c) }
		some := func(s *scene) { asked(s); s.acks(1, 3, 1) }
		l = append(l, stage{"asked", c, then, 1, []int{0, 1, 2}, 0, word, asked}, stage{"one Ack", c, then, 1, []int{0, 2}, 3, word, some})
		if !isTwofold(c) {
			continue
		}
		all := func(s *scene) { some(s); s.acks(1, 2, 0, 2) }
		second := func(s *scene) { all(s); s.take(c.DC, wordOf(c, 1)) }
		late := func(s *scene) { second(s); s.acks(2, 8, 0, 2) }
		l = append(l, stage{"all Acks", c, then, 1, nil, 3, map[int]int{1: 24, 2: 25}[c.Kind], all})
		hearers := unionOf(base(), then)
		l = append(l, stage{"N 2", c, then, 2, hearers, 3, 0, second}, stage{"N 2, some Acks", c, then, 2, append([]int{1}, hearers[3:]...), 8, 0, late})
		if c.Kind == 2 {
			early := func(s *scene) { some(s); s.take(c.DC, drained(1)) }
			l = append(l, stage{"Drained ahead of the Acks", c, then, 1, []int{0, 2}, 3, 0, early})
		}
	}
	return l
}

// at is a scene of a stage, with nothing to send.
func (l stage) at(t *testing.T) *scene {
	t.Helper()
	s := over(t, base())
	s.promise = "P19.1: " + l.name
	l.reach(s)
	s.w.Out()
	s.busy(0, 1, base(), l.then, l.then)
	return s
}

func (l stage) isAwaited(dc int) bool {
	for _, awaited := range l.awaits {
		if awaited == dc {
			return true
		}
	}
	return false
}

// Whatever isn't of the last entry's epoch does nothing, in any stage.
func TestOtherEpochs(t *testing.T) {
	for _, l := range stages() {
		s := l.at(t)
		for _, id := range otherIds(l.epoch) {
			if id == l.epoch {
				continue
			}
			for dc := range 4 {
				s.ignores(dc, ack(id, 0), ack(id, 7), caught(id), drained(id))
			}
		}
		l.wantGoesOn(s)
	}
}

// Messages of every other kind do nothing, in any stage, from any gate.
func TestOtherKinds(t *testing.T) {
	for _, l := range stages() {
		s := l.at(t)
		for _, kind := range append(ints(), 9, 10, 11, 12, 13, 14, 15, 16, 17, 18, 19, 22, 26, 27, 23+256, -23, -24, -25) {
			for dc := range 4 {
				s.ignores(dc, api.Msg{Kind: kind, Id: l.epoch, TS: 99}, filled(api.Msg{Kind: kind, Id: l.epoch}))
			}
		}
		l.wantGoesOn(s)
	}
}

// Who is no datacenter says nothing, in any stage.
func TestOtherDatacenters(t *testing.T) {
	for _, l := range stages() {
		s := l.at(t)
		for _, dc := range append(far(), 4, 5, 6, 11, 16, 20, 255, 256, 1<<32+1, 1<<32+3) {
			s.ignores(dc, ack(l.epoch, 5), caught(l.epoch), drained(l.epoch))
		}
		l.wantGoesOn(s)
	}
}

// Acks from gates that aren't waited for do nothing, in any stage, and change no mark.
func TestAcksOfOthers(t *testing.T) {
	for _, l := range stages() {
		s := l.at(t)
		for dc := range 4 {
			if !l.isAwaited(dc) {
				s.ignores(dc, ack(l.epoch, 0), ack(l.epoch, latest), filled(ack(l.epoch, 50)))
			}
		}
		l.wantGoesOn(s)
	}
}

// An Ack counts once.
func TestAcksTwice(t *testing.T) {
	for _, l := range stages() {
		if len(l.awaits) < 2 {
			continue
		}
		for _, dc := range l.awaits {
			s := l.at(t)
			s.take(dc, ack(l.epoch, 0))
			s.ignores(dc, ack(l.epoch, 0), ack(l.epoch, latest), filled(ack(l.epoch, 9)))
			rest := l
			rest.awaits = without(l.awaits, dc)
			rest.wantGoesOn(s)
		}
	}
}

func without(l []int, dc int) []int {
	var rest []int
	for _, is := range l {
		if is != dc {
			rest = append(rest, is)
		}
	}
	return rest
}

// Words that aren't waited for do nothing: those of other datacenters, of the other kind, and in stages without one.
func TestWordsThatAreNotWaitedFor(t *testing.T) {
	for _, l := range stages() {
		s := l.at(t)
		for dc := range 4 {
			for _, m := range []api.Msg{caught(l.epoch), drained(l.epoch)} {
				if dc != l.cmd.DC || m.Kind != l.word {
					s.ignores(dc, m, filled(m))
				}
			}
		}
		l.wantGoesOn(s)
	}
}

// wantGoesOn wants that what is waited for, and nothing else, brings the command to its next entry or through.
func (l stage) wantGoesOn(s *scene) {
	s.Helper()
	for _, dc := range l.awaits {
		s.wantPending(1)
		s.out()
		s.take(dc, ack(l.epoch, 1))
	}
	switch {
	case l.epoch == 2 || !isTwofold(l.cmd):
		s.out()
		s.idle(1, l.then)
		return
	case l.cmd.Kind == 1 && len(l.awaits) > 0:
		s.out(floor(3, 1, max(l.mark, 1)))
	case l.name == "Drained ahead of the Acks":
		s.out(entries(2, 2, l.cmd, l.then, 0, 1, 2)...)
		return
	}
	s.out()
	s.busy(0, 1, base(), l.then, l.then)
	s.take(l.cmd.DC, wordOf(l.cmd, 1))
	s.out(entries(2, 2, l.cmd, l.then, unionOf(base(), l.then)...)...)
}

func (s *scene) wantPending(want int) {
	s.Helper()
	if is := s.w.Pending(); is != want {
		s.wrong("Pending answers %d, not %d", is, want)
	}
}

// Each stage goes on by what it waits for.
func TestStagesGoOn(t *testing.T) {
	for _, l := range stages() {
		l.wantGoesOn(l.at(t))
	}
}

// The Acks come in any order, of the entries with N 1 and with N 2.
func TestAcksInAnyOrder(t *testing.T) {
	for _, k := range kinds() {
		now := base()
		then := behind(now, k.change)
		hearers := unionOf(now, then)
		orders([]int{0, 1, 2}, func(first []int) {
			orders(hearers, func(second []int) {
				s := over(t, now)
				s.asks(0, k.cmd)
				for _, dc := range first {
					s.busy(0, 1, now, then, then)
					s.take(dc, ack(1, uint64(dc)))
				}
				if isTwofold(k.cmd) {
					s.take(k.cmd.DC, wordOf(k.cmd, 1))
					for _, dc := range second {
						s.busy(0, 1, now, then, then)
						s.take(dc, ack(2, uint64(dc)))
					}
				}
				s.idle(1, then)
			})
		})
	}
}

// Fields that an answer doesn't use are of no matter.
func TestAnswersWithEveryFieldSet(t *testing.T) {
	for _, k := range kinds() {
		now := base()
		then := behind(now, k.change)
		s := over(t, now)
		s.asks(0, k.cmd)
		s.w.Out()
		for dc := range 3 {
			s.take(dc, filled(ack(1, uint64(20+dc))))
		}
		if isTwofold(k.cmd) {
			if k.cmd.Kind == 1 {
				s.out(floor(3, 1, 22))
			}
			word := filled(wordOf(k.cmd, 1))
			word.TS = 77
			s.take(k.cmd.DC, word)
			s.out(entries(2, 2, k.cmd, then, unionOf(now, then)...)...)
			for dc := range 4 {
				s.take(dc, filled(ack(2, 5)))
			}
		}
		s.out()
		s.idle(1, then)
	}
}

// A Caught ahead of the last Ack of the entry with N 1 doesn't count, and has to come again.
func TestCaughtAheadOfTheLastAck(t *testing.T) {
	now := base()
	then := behind(now, joined(3))
	for early := range 3 {
		s := over(t, now)
		s.asks(0, adding(3))
		s.w.Out()
		for dc := range 3 {
			if dc == early {
				s.ignores(3, caught(1), drained(1))
			}
			s.take(dc, ack(1, 0))
		}
		s.out(floor(3, 1, 0))
		s.busy(0, 1, now, then, then)
		s.take(3, caught(1))
		s.out(entries(2, 2, adding(3), then, 0, 1, 2, 3)...)
		s.ignores(3, caught(1), caught(2), drained(2))
	}
}

// A Drained counts ahead of the last Ack of the entry with N 1, among them, and behind them; once.
func TestDrainedAheadOfTheLastAck(t *testing.T) {
	now := base()
	for dc := range 3 {
		then := behind(now, left(dc))
		for early := range 4 {
			s := over(t, now)
			s.asks(0, removing(dc))
			s.w.Out()
			for acked := range 4 {
				if acked == early {
					s.take(dc, drained(1))
				}
				if acked > early && acked < 3 {
					s.ignores(dc, drained(1), drained(0), drained(2))
				}
				if acked < 3 {
					s.out()
					s.busy(0, 1, now, then, then)
					s.take(acked, ack(1, 0))
				}
			}
			s.out(entries(2, 2, removing(dc), then, 0, 1, 2)...)
			s.busy(0, 1, now, then, then)
			s.ignores(dc, drained(1), drained(2))
			s.acks(2, 0, 0, 1, 2)
			s.idle(1, then)
		}
	}
}

// What counted of one command doesn't count for the next one.
func TestWordsOfAnEarlierCommand(t *testing.T) {
	s := over(t, calm(0, 1))
	s.asks(0, removing(1), adding(1), removing(1))
	s.take(1, drained(1))
	s.acks(1, 0, 0, 1)
	s.acks(2, 0, 0, 1)
	s.w.Out()
	s.ignores(1, drained(1), drained(2), drained(3), caught(1), caught(2), caught(3))
	s.acks(3, 0, 0)
	s.out(floor(1, 3, 0))
	s.ignores(1, drained(3))
	s.take(1, caught(3))
	s.acks(4, 0, 0, 1)
	s.w.Out()
	s.ignores(1, caught(5), drained(4), drained(1))
	s.acks(5, 0, 0, 1)
	s.out()
	s.ignores(0, drained(5))
	s.take(1, drained(5))
	s.acks(6, 0, 1, 0)
	s.idle(3, behind(calm(0, 1), left(1)))
}

// With nothing under way nothing counts, also of the last epoch.
func TestNothingUnderWay(t *testing.T) {
	for _, k := range kinds() {
		then := behind(base(), k.change)
		s := over(t, base())
		s.asks(0, k.cmd)
		s.through(k.cmd, 1, []int{0, 1, 2}, unionOf(base(), then)...)
		s.w.Out()
		s.idle(1, then)
		for id := range uint64(5) {
			for dc := range 4 {
				s.ignores(dc, ack(id, 9), caught(id), drained(id))
			}
		}
		s.idle(1, then)
	}
}

// The gate that joins isn't waited for ahead of its Floor, but of the entry with N 2 it is; the one that leaves is of both.
func TestWhoseAcksAreWaitedFor(t *testing.T) {
	s := over(t, calm(0))
	s.asks(0, adding(2))
	s.w.Out()
	s.ignores(2, ack(1, 9))
	s.acks(1, 4, 0)
	s.out(floor(2, 1, 4))
	s.take(2, caught(1))
	s.w.Out()
	s.acks(2, 0, 0)
	s.wantPending(1)
	s.acks(2, 0, 2)
	then := behind(calm(0), joined(2))
	s.idle(1, then)
	s.asks(1, removing(0))
	s.w.Out()
	s.take(0, drained(3))
	s.acks(3, 0, 2)
	s.out()
	s.acks(3, 0, 0)
	s.out(entries(4, 2, removing(0), behind(then, left(0)), 0, 2)...)
	s.acks(4, 0, 2)
	s.wantPending(1)
	s.acks(4, 0, 0)
	s.idle(2, behind(then, left(0)))
}
