package stab_test

import (
	"slices"
	"testing"

	"confluence/api"
)

// plain is a second table: maps that have what is known of each member but the own datacenter.
type plain struct {
	own             int
	beats           []uint64
	counts          map[int]bool
	got, told       map[int]uint64
	changed, joined int
	stable          uint64
}

func newPlain(own, nodes int, has members) *plain {
	p := &plain{own: own, counts: map[int]bool{}, got: map[int]uint64{}, told: map[int]uint64{}}
	for range nodes {
		p.beats = append(p.beats, 0)
	}
	for dc, is := range has {
		if is {
			p.counts[dc] = true
		}
	}
	return p
}

func (p *plain) local() uint64 {
	l := slices.Clone(p.beats)
	slices.Sort(l)
	return l[0]
}

// known tells what the table has to tell.
func (p *plain) known() known {
	k := known{local: p.local(), stable: p.stable}
	k.applied, _ = p.least(p.got, k.local)
	for dc := range p.counts {
		k.has[dc] = true
	}
	return k
}

// least is the least over the members, with another time for the own datacenter; false: there are no members.
func (p *plain) least(times map[int]uint64, own uint64) (uint64, bool) {
	var l []uint64
	for dc := range p.counts {
		if dc == p.own {
			l = append(l, own)
		} else {
			l = append(l, times[dc])
		}
	}
	if len(l) == 0 {
		return 0, false
	}
	slices.Sort(l)
	return l[0], true
}

// settle looks at Stable.
func (p *plain) settle() {
	if least, there := p.least(p.told, p.known().applied); there && p.stable < least {
		p.stable = least
	}
}

func (p *plain) of(c call) api.Errno {
	switch c.name {
	case "Beat":
		if c.at < 0 || c.at >= len(p.beats) {
			return api.OK
		}
		if p.beats[c.at] < c.time {
			p.beats[c.at] = c.time
		}
	case "Got":
		if c.at == p.own {
			return api.OK
		}
		p.hear(p.got, c)
	case "Told":
		if c.at == p.own || c.epoch < p.joined {
			return api.OK
		}
		p.hear(p.told, c)
	case "Lift":
		if p.stable < c.time {
			p.stable = c.time
		}
		return api.OK
	case "Join":
		return p.join(c)
	case "Leave":
		return p.leave(c)
	}
	p.settle()
	return api.OK
}

func (p *plain) hear(times map[int]uint64, c call) {
	if p.counts[c.at] && times[c.at] < c.time {
		times[c.at] = c.time
	}
}

func (p *plain) join(c call) api.Errno {
	switch {
	case c.at < 0 || c.at > 3:
		return api.ErrArg
	case p.counts[c.at]:
		return api.ErrThere
	case c.epoch <= p.changed:
		return api.ErrOld
	}
	p.counts[c.at] = true
	p.got[c.at] = 0
	p.told = map[int]uint64{}
	p.changed, p.joined = c.epoch, c.epoch
	return api.OK
}

func (p *plain) leave(c call) api.Errno {
	switch {
	case c.at < 0 || c.at > 3:
		return api.ErrArg
	case !p.counts[c.at]:
		return api.ErrNone
	case c.epoch <= p.changed:
		return api.ErrOld
	}
	delete(p.counts, c.at)
	p.changed = c.epoch
	p.settle()
	return api.OK
}

// anyTime is mostly near what is known, so that times are often alike, and go on.
func anyTime(n *numbers, p *plain) uint64 {
	switch n.below(30) {
	case 0:
		l := moments()
		return l[n.below(len(l)-4)]
	case 1:
		return n.next() >> 40
	}
	return p.stable + uint64(n.below(12)) - min(p.stable, 4)
}

// anyNumber is mostly a datacenter's.
func anyNumber(n *numbers) int {
	if n.below(20) == 0 {
		l := noDCs()
		return l[n.below(len(l))]
	}
	return n.below(4)
}

// anyNode is now and then no node's number.
func anyNode(n *numbers, p *plain) int {
	if n.below(10) == 0 {
		return anyNumber(n)
	}
	return n.below(len(p.beats))
}

// near is mostly a little above an epoch.
func near(n *numbers, epoch int) int { return epoch + n.below(6) - 2 }

func anyCall(n *numbers, p *plain) call {
	switch n.below(40) {
	case 0:
		return join(anyNumber(n), near(n, p.changed))
	case 1:
		return leave(anyNumber(n), near(n, p.changed))
	case 2:
		return lift(anyTime(n, p))
	case 3, 4, 5, 6, 7, 8, 9, 10, 11, 12, 13, 14, 15, 16:
		return beat(anyNode(n, p), anyTime(n, p))
	case 17, 18, 19, 20, 21, 22, 23, 24, 25, 26, 27, 28:
		return got(anyNumber(n), anyTime(n, p))
	}
	return told(anyNumber(n), near(n, p.joined+1), anyTime(n, p))
}

// longRuns makes any calls of new tables of all kinds, held against the second table; each is looked at by the function, with what was known ahead of it. It answers how many calls had each error.
func longRuns(t *testing.T, seed numbers, runs, calls int, each func(s *scene, c call, e api.Errno, was known)) map[api.Errno]int {
	t.Helper()
	errors := map[api.Errno]int{}
	for range runs {
		has, own, nodes := allMembers()[seed.below(16)], seed.below(4), 1+seed.below(4)
		p, s := newPlain(own, nodes, has), made(t, own, nodes, has)
		for range calls {
			was, c := p.known(), anyCall(&seed, p)
			e := p.of(c)
			errors[e]++
			s.refused(c, e)
			s.want(p.known())
			each(s, c, e, was)
			if t.Failed() {
				return errors
			}
		}
	}
	return errors
}

func TestLongRunsOfCalls(t *testing.T) {
	changes, risings := map[string]int{}, 0
	errors := longRuns(t, 61, 400, 500, func(s *scene, c call, e api.Errno, was known) {
		if c.name == "Join" || c.name == "Leave" {
			changes[c.name+" "+e.Error()]++
		}
		if s.Stable() > was.stable {
			risings++
		}
	})
	for _, e := range []api.Errno{api.ErrArg, api.ErrThere, api.ErrNone, api.ErrOld} {
		if errors[e] < 200 {
			t.Errorf("P12.1: in long runs few calls had error %d: %v", e, errors)
		}
	}
	if changes["Join confluence: error 0"] < 500 || changes["Leave confluence: error 0"] < 500 || risings < 5000 {
		t.Errorf("P12.1: in long runs Stable rose %d times, and there were but these changes: %v", risings, changes)
	}
}

// fewCalls are calls of small numbers, of which all short rows are tried.
func fewCalls() []call {
	return []call{beat(0, 1), beat(0, 2), beat(1, 2), got(0, 2), got(1, 1), got(1, 2), got(2, 2), told(0, 0, 2), told(1, 0, 1), told(1, 1, 2), told(1, 2, 2), told(2, 1, 1), lift(1), join(0, 1), join(0, 2), join(1, 1), join(1, 3), join(2, 2), leave(0, 1), leave(0, 2), leave(1, 1), leave(1, 3)}
}

// All rows of three of them, behind some calls of each kind.
func TestAllShortRowsOfCalls(t *testing.T) {
	beginnings := [][]call{{}, {beat(0, 3)}, {beat(0, 3), got(1, 3)}, {beat(0, 3), told(1, 0, 3)}, {beat(0, 3), got(1, 3), told(1, 0, 3)}}
	l := fewCalls()
	for _, has := range []members{who(), who(0), who(1), who(0, 1)} {
		for _, beginning := range beginnings {
			for i := range len(l) * len(l) * len(l) {
				row := append(slices.Clone(beginning), l[i%len(l)], l[i/len(l)%len(l)], l[i/len(l)/len(l)])
				p, s := newPlain(0, 1, has), made(t, 0, 1, has)
				for _, c := range row {
					s.refused(c, p.of(c))
				}
				s.want(p.known())
			}
			if t.Failed() {
				return
			}
		}
	}
}
