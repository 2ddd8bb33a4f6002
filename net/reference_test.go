package net_test

import (
	"cmp"
	"fmt"
	"slices"
	"testing"

	"confluence/api"
	"confluence/net"
)

// plain is a second net: all packets in one list, in the order in which they came to stand, each with its way.
type plain struct {
	packets []placed
	lost    int
}

type placed struct {
	way way
	packet
}

// at is where in the list the packet i of a way is, or -1.
func (p *plain) at(w way, i int) int {
	for k, x := range p.packets {
		if x.way != w {
			continue
		}
		if i == 0 {
			return k
		}
		i--
	}
	return -1
}

func (p *plain) count(w way) int {
	count := 0
	for _, x := range p.packets {
		if x.way == w {
			count++
		}
	}
	return count
}

// step is one call.
type step struct {
	name  string
	way   way
	i, at int
	mask  byte
	text  string
}

func (s step) String() string {
	return fmt.Sprintf("%s(%d, %d, i %d, at %d, mask %d, %q)", s.name, s.way[0], s.way[1], s.i, s.at, s.mask, s.text)
}

// isWay tells it by a list of all places.
func isWay(w way) bool {
	places := []int{0, 1, 2, 3, 4, 5, 6, 7, 8, 9, 10, 11, 12, 13, 14, 15, 16, 17, 18, 19, 20}
	return slices.Contains(places, w[0]) && slices.Contains(places, w[1]) && w[0] != w[1]
}

func (p *plain) send(s step) api.Errno {
	if p.count(s.way) == 48 {
		p.lost++
		return api.ErrFull
	}
	p.packets = append(p.packets, placed{s.way, packet{text: s.text}})
	return api.OK
}

func (p *plain) do(s step) (packet, api.Errno) {
	if !isWay(s.way) {
		return packet{}, api.ErrArg
	}
	if s.name == "Send" {
		return packet{}, p.send(s)
	}
	k := p.at(s.way, s.i)
	if s.i < 0 || k < 0 {
		return packet{}, api.ErrNone
	}
	x := p.packets[k]
	rest := func() []placed { return append(append([]placed(nil), p.packets[:k]...), p.packets[k+1:]...) }
	switch s.name {
	case "Look":
		return x.packet, api.OK
	case "Take":
		p.packets = rest()
		return x.packet, api.OK
	case "Lose":
		p.packets = rest()
		p.lost++
	case "Back":
		p.packets = append(rest(), x)
	case "Twice":
		if p.count(s.way) == 48 {
			return packet{}, api.ErrFull
		}
		p.packets = append(p.packets, x)
	case "Spoil":
		return packet{}, p.spoil(k, s)
	}
	return packet{}, api.OK
}

func (p *plain) spoil(k int, s step) api.Errno {
	x := &p.packets[k]
	if s.mask == 0 || s.at < 0 || s.at >= len(x.text) {
		return api.ErrArg
	}
	if x.spoilt {
		return api.ErrThere
	}
	x.packet = packet{turned(x.text, s.at, s.mask), true}
	return api.OK
}

func (p *plain) row(w way) []packet {
	var l []packet
	for _, x := range p.packets {
		if x.way == w {
			l = append(l, x.packet)
		}
	}
	return l
}

func (p *plain) ways() []way {
	var l []way
	for _, x := range p.packets {
		if !slices.Contains(l, x.way) {
			l = append(l, x.way)
		}
	}
	slices.SortFunc(l, func(a, b way) int { return cmp.Compare(a[0]*100+a[1], b[0]*100+b[1]) })
	return l
}

func do(n *net.Net, s step) (packet, api.Errno) {
	from, to := s.way[0], s.way[1]
	var p net.Packet
	var e api.Errno
	switch s.name {
	case "Send":
		e = n.Send(from, to, []byte(s.text))
	case "Look":
		p, e = n.Look(from, to, s.i)
	case "Take":
		p, e = n.Take(from, to, s.i)
	case "Lose":
		e = n.Lose(from, to, s.i)
	case "Twice":
		e = n.Twice(from, to, s.i)
	case "Back":
		e = n.Back(from, to, s.i)
	case "Spoil":
		e = n.Spoil(from, to, s.i, s.at, s.mask)
	}
	return known(p), e
}

// anyStep mostly has to do with a packet that is there. The more sends, the fuller the net.
func anyStep(r *numbers, p *plain, ways []way, sends int) step {
	names := []string{"Look", "Take", "Lose", "Twice", "Back", "Spoil", "Spoil"}
	s := step{name: names[r.below(len(names))], way: ways[r.below(len(ways))]}
	if r.below(100) < sends {
		s.name = "Send"
	}
	if r.below(25) == 0 {
		s.way[r.below(2)] = r.below(26) - 2
	}
	count := p.count(s.way)
	s.i = r.below(count + 1)
	if r.below(15) == 0 {
		s.i = []int{-1, count, count + 1, 47, 48, farOff, -farOff - 1}[r.below(7)]
	}
	s.text = string(allBytes()[r.below(250):])[:r.below(7)]
	s.at, s.mask = r.below(6), byte(r.next()>>7)
	if r.below(15) == 0 {
		s.at, s.mask = []int{-1, 6, farOff}[r.below(3)], byte(r.below(2))
	}
	return s
}

func wantAlike(t *testing.T, n *net.Net, p *plain, w way) {
	t.Helper()
	if n.Len(w[0], w[1]) != p.count(w) {
		t.Errorf("P7.1: Len from %d to %d is %d, not %d", w[0], w[1], n.Len(w[0], w[1]), p.count(w))
	}
	if isWay(w) {
		wantRow(t, "P7.1", n, w[0], w[1], p.row(w))
	}
	wantLost(t, "P7.1", n, p.lost)
}

// run holds calls in a long row against the second net; how many of them answered what.
func run(t *testing.T, r *numbers, ways []way, steps, sends int) map[string]int {
	t.Helper()
	n, p, seen := net.New(), &plain{}, map[string]int{}
	for k := range steps {
		s := anyStep(r, p, ways, sends)
		want, wantE := p.do(s)
		got, e := do(n, s)
		seen[fmt.Sprintf("%s %d", s.name, e)]++
		if got != want || e != wantE {
			t.Errorf("P7.1: call %d, %v, answers %v with error %d, not %v with error %d", k, s, got, e, want, wantE)
		}
		wantAlike(t, n, p, s.way)
		if k%50 == 0 {
			wantWays(t, "P7.1", n, p.ways()...)
			for _, w := range ways {
				wantAlike(t, n, p, w)
			}
		}
		if t.Failed() {
			return seen
		}
	}
	return seen
}

func TestLongRunsOfCalls(t *testing.T) {
	few := []way{{0, 20}, {20, 0}, {4, 5}}
	var each []way
	for from := range 21 {
		for to := range 21 {
			if from != to {
				each = append(each, way{from, to})
			}
		}
	}
	r, seen := numbers(7), map[string]int{}
	for _, ways := range [][]way{few[:1], few, {{1, 2}, {2, 1}, {1, 3}, {3, 1}, {2, 3}, {3, 2}}, each} {
		for _, sends := range []int{10, 30, 50, 80} {
			for what, count := range run(t, &r, ways, 2000, sends) {
				seen[what] += count
			}
		}
	}
	for _, what := range []string{"Send 0", "Send 1", "Send 9", "Look 0", "Look 1", "Look 7", "Take 0", "Take 1", "Take 7", "Lose 0", "Lose 1", "Lose 7", "Twice 0", "Twice 1", "Twice 7", "Twice 9", "Back 0", "Back 1", "Back 7", "Spoil 0", "Spoil 1", "Spoil 7", "Spoil 8"} {
		if seen[what] == 0 {
			t.Errorf("P7.1: in long runs no call was as %s: %v", what, seen)
		}
	}
}
