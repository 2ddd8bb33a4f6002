package order_test

import (
	"fmt"
	"testing"

	"confluence/api"
	"confluence/order"
)

// anyCommits are commits of marks and versions of all kinds.
func anyCommits() []api.Rec {
	l := []api.Rec{{}, {Vers: []api.Ver{}}, {Vers: strange()}, sized(8, 9, 1, 4), sized(api.MostVers, 3, 0, 1)}
	for _, ts := range moments() {
		l = append(l, rec(ts, 0, 1), api.Rec{TS: ts})
	}
	for _, n := range ends() {
		l = append(l, rec(5, n, 1), rec(5, 0, n), rec(latest, n, n), rec(0, n, n))
	}
	return l
}

// anyPlaces are places in a log of so many stable ones, and around it.
func anyPlaces(count int) []int {
	l := ends()
	for i := -3; i <= count+3; i++ {
		l = append(l, i)
	}
	return append(l, count*2, -count, -count-1)
}

// A nil log refuses all commits and has none, whatever it was asked ahead of that.
func TestNilLog(t *testing.T) {
	var l *order.Log
	for range 2 {
		for _, r := range anyCommits() {
			wantAnswer(t, "P13.1: of a nil log", "Decide "+quoted(r), l.Decide(r), api.ErrArg)
		}
		for _, time := range moments() {
			wantAnswer(t, "P13.1: of a nil log", fmt.Sprintf("Release(%d)", time), l.Release(time), 0)
		}
		wantAnswer(t, "P13.1: of a nil log", "Len", l.Len(), 0)
		wantAnswer(t, "P13.1: of a nil log", "Waiting", l.Waiting(), 0)
		for _, at := range anyPlaces(2) {
			commits := l.From(at)
			for range 2 {
				wantTold(t, "P13.1: of a nil log", fmt.Sprintf("From(%d)", at), commits, 0, nil)
			}
		}
	}
}

// calling makes each call of a log with these arguments.
func calling(l *order.Log, r api.Rec, time uint64, at int) {
	order.Copy(r)
	l.Decide(r)
	l.Decide(r)
	l.Len()
	l.Waiting()
	for range l.From(at) {
	}
	l.Release(time)
	l.Decide(r)
	for range l.From(at) {
		break
	}
	l.Release(0)
	for range l.From(at) {
	}
	order.New()
}

func TestNothingPanics(t *testing.T) {
	var r api.Rec
	defer func() {
		if thrown := recover(); thrown != nil {
			t.Errorf("R1: a call with %s panics: %v", quoted(r), thrown)
		}
	}()
	for _, r = range anyCommits() {
		for _, time := range moments() {
			for _, at := range anyPlaces(3) {
				held := order.New()
				for _, own := range times(9, 4, 7) {
					held.Decide(own)
				}
				held.Release(5)
				for _, l := range []*order.Log{nil, order.New(), held} {
					calling(l, r, time, at)
				}
			}
		}
	}
}
