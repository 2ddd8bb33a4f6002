package part_test

import (
	"fmt"
	"slices"
	"testing"

	"confluence/api"
	"confluence/part"
)

// strangeCalls are calls with transactions, stamps and readings of all kinds.
func strangeCalls() []call {
	var l []call
	for _, ms := range append(readings(), noReadings()...) {
		l = append(l, stable(ms))
		for _, stamp := range moments() {
			for _, tx := range txs() {
				l = append(l, prepare(tx, stamp, ms), commit(tx, stamp, ms))
			}
		}
	}
	for _, stamp := range moments() {
		l = append(l, see(stamp))
	}
	return l
}

// Of a nil side calls with an error answer ErrArg, whatever else is wrong, and the others nothing.
func TestNilSide(t *testing.T) {
	s := &scene{T: t, promise: "P16.1", done: []string{"a nil side"}}
	s.want(0, 0)
	for _, c := range strangeCalls() {
		if c.name == "See" {
			s.makes(c, answer{}, 0)
		} else {
			s.makes(c, answer{0, api.ErrArg}, 0)
		}
	}
	s.want(0, 0)
}

func TestNothingPanics(t *testing.T) {
	doing := "a new side"
	defer func() {
		if thrown := recover(); thrown != nil {
			t.Errorf("R1: %s panics: %v", doing, thrown)
		}
	}()
	backwards := strangeCalls()
	slices.Reverse(backwards)
	for _, calls := range [][]call{strangeCalls(), backwards} {
		p := part.New()
		for _, c := range calls {
			doing = c.String()
			c.of(p)
			c.of(part.New())
			p.Open()
			p.Clock()
		}
	}
	for _, clock := range moments() {
		for i, c := range strangeCalls() {
			doing = fmt.Sprintf("%s of a clock at %d", c, clock)
			p := part.New()
			p.Prepare(txs()[i%len(txs())], 0, 0)
			p.See(clock)
			c.of(p)
			p.Stable(0)
			c.of(p)
		}
	}
}
