package part_test

import (
	"fmt"
	"math"
	"slices"
	"strings"
	"testing"

	"confluence/api"
	"confluence/part"
)

const (
	latest  = math.MaxUint64
	highest = math.MaxInt
	lowest  = math.MinInt
	// lastReading is the stamp of the greatest reading.
	lastReading = latest - 65535
)

// numbers is a row of numbers that is the same each time.
type numbers uint64

func (n *numbers) next() uint64 {
	*n = *n*6364136223846793005 + 1442695040888963407
	x := uint64(*n)
	return (x ^ x>>29) * 0x9e3779b97f4a7c15
}

func (n *numbers) below(bound int) int { return int(n.next() >> 12 % uint64(bound)) }

// one is any of a list.
func one[E any](n *numbers, l []E) E { return l[n.below(len(l))] }

// orders calls with each order of a list.
func orders[E any](l []E, each func([]E)) {
	var choose func(chosen, left []E)
	choose = func(chosen, left []E) {
		if len(left) == 0 {
			each(chosen)
		}
		for i, e := range left {
			choose(append(slices.Clone(chosen), e), slices.Delete(slices.Clone(left), i, i+1))
		}
	}
	choose(nil, l)
}

// moments are stamps at both ends and in the midst; they rise.
func moments() []uint64 {
	return []uint64{0, 1, 2, 5, 65535, 65536, 65537, 1 << 32, 1 << 56, 1<<63 - 1, 1 << 63, lastReading - 1, lastReading, lastReading + 1, latest - 1, latest}
}

// txs are transactions' numbers at both ends and in the midst.
func txs() []uint64 {
	return []uint64{0, 1, 2, api.MostTx, api.MostTx + 1, 1<<32 - 1, 1 << 32, 1<<63 - 1, 1 << 63, latest - 1, latest}
}

// readings are what a physical clock shows, at both ends and in the midst; they rise.
func readings() []int {
	return []int{0, 1, 2, 3, 65535, 65536, api.MostClock - 1, api.MostClock, api.MostClock + 1, 1 << 47, api.MostMillis - 1, api.MostMillis}
}

// noReadings are numbers that no physical clock shows.
func noReadings() []int {
	return []int{-1, -2, -65536, lowest + 1, lowest, api.MostMillis + 1, api.MostMillis + 2, 1 << 49, highest - 1, highest}
}

// ticks is a reading's stamp.
func ticks(ms int) uint64 { return uint64(ms) * 65536 }

// call is a call that may change a side. Its stamp is what the call has of one: low, at or t.
type call struct {
	name      string
	tx, stamp uint64
	ms        int
}

func prepare(tx, low uint64, ms int) call { return call{"Prepare", tx, low, ms} }
func commit(tx, at uint64, ms int) call   { return call{"Commit", tx, at, ms} }
func see(t uint64) call                   { return call{name: "See", stamp: t} }
func stable(ms int) call                  { return call{name: "Stable", ms: ms} }

func (c call) String() string {
	switch c.name {
	case "See":
		return fmt.Sprintf("See(%d)", c.stamp)
	case "Stable":
		return fmt.Sprintf("Stable(%d)", c.ms)
	}
	return fmt.Sprintf("%s(%d, %d, %d)", c.name, c.tx, c.stamp, c.ms)
}

// answer is what a call answers; those without a stamp answer 0, those without an error OK.
type answer struct {
	stamp uint64
	e     api.Errno
}

func (c call) of(p *part.Part) answer {
	var a answer
	switch c.name {
	case "Prepare":
		a.stamp, a.e = p.Prepare(c.tx, c.stamp, c.ms)
	case "Commit":
		a.e = p.Commit(c.tx, c.stamp, c.ms)
	case "See":
		p.See(c.stamp)
	case "Stable":
		a.stamp, a.e = p.Stable(c.ms)
	}
	return a
}

// scene is a side, what was done with it, and how many are prepared by that.
type scene struct {
	*testing.T
	side    *part.Part
	promise string
	done    []string
	open    int
}

// begun is a scene of a side that was just made.
func begun(t *testing.T) *scene {
	return &scene{T: t, side: part.New(), promise: "P16.1", done: []string{"New()"}}
}

// at is a scene of a side whose clock is at a stamp, and of which nothing is prepared.
func at(t *testing.T, clock uint64) *scene {
	t.Helper()
	s := begun(t)
	s.raises(clock, see(clock))
	return s
}

// wrong tells what is wrong behind the last ones of the calls.
func (s *scene) wrong(what string, a ...any) {
	s.Helper()
	story := strings.Join(s.done[max(0, len(s.done)-25):], ", ")
	s.Errorf("%s: behind %s: %s", s.promise, story, fmt.Sprintf(what, a...))
}

// want wants Open and Clock, also when they are asked again.
func (s *scene) want(open int, clock uint64) {
	s.Helper()
	for range 2 {
		if is := s.side.Open(); is != open {
			s.wrong("Open answers %d, not %d", is, open)
		}
		if is := s.side.Clock(); is != clock {
			s.wrong("Clock answers %d, not %d", is, clock)
		}
	}
}

// makes makes a call, and wants what it answers and what the clock is behind it.
func (s *scene) makes(c call, want answer, clock uint64) {
	s.Helper()
	got := c.of(s.side)
	s.done = append(s.done, c.String())
	if got != want {
		s.wrong("the last answers %d, %d; not %d, %d", got.stamp, int(got.e), want.stamp, int(want.e))
	}
	switch {
	case want.e != api.OK:
	case c.name == "Prepare":
		s.open++
	case c.name == "Commit":
		s.open--
	}
	s.want(s.open, clock)
}

// proposes wants that a Prepare proposes a stamp, and that it is the clock.
func (s *scene) proposes(stamp uint64, c call) {
	s.Helper()
	s.makes(c, answer{stamp, api.OK}, stamp)
}

// raises wants of each of these Commits and Sees that it has no error, and that the clock is a stamp behind it.
func (s *scene) raises(clock uint64, calls ...call) {
	s.Helper()
	for _, c := range calls {
		s.makes(c, answer{}, clock)
	}
}

// refuses wants the same error of each of these calls, and that none is prepared more or less by it, and that the clock stays.
func (s *scene) refuses(e api.Errno, calls ...call) {
	s.Helper()
	clock := s.side.Clock()
	for _, c := range calls {
		s.makes(c, answer{0, e}, clock)
	}
}

// stable wants what Stable answers at a reading, also when it is asked again, and what the clock is behind it.
func (s *scene) stable(ms int, stamp, clock uint64) {
	s.Helper()
	for range 2 {
		s.makes(stable(ms), answer{stamp, api.OK}, clock)
	}
}
