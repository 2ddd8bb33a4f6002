package session_test

import (
	"fmt"
	"testing"

	"confluence/api"
	"confluence/session"
)

// wantNothing wants of a nil session what it answers: nothing, and ErrArg of calls with an error.
func wantNothing(s *scene) {
	s.Helper()
	s.want(false, 0, 0)
	s.writes()
	s.close(api.ErrArg)
	s.want(false, 0, 0)
}

// A nil session takes nothing and has nothing, whatever it was handed ahead of that.
func TestNilSession(t *testing.T) {
	s := &scene{T: t, promise: "P15.1: of a nil session"}
	for range 2 {
		wantNothing(s)
		s.refuseBegin(api.ErrArg, moments()...)
		wantNothing(s)
		s.write(api.ErrArg, anyWrites()...)
		s.unknown(anyKeys()...)
		wantNothing(s)
		s.commit(api.ErrArg, anyMarks()...)
		s.unknown(anyKeys()...)
		wantNothing(s)
	}
}

// calling makes each call of a session with these arguments, with others in between.
func calling(s *session.Session, time uint64, v api.Ver, m api.Mark) {
	for range 2 {
		s.Write(v.Key, v.Val, v.Gone)
		s.Commit(m)
		s.Look(v.Key)
		s.Writes()
		s.Begin(time)
		s.Begin(time)
		s.Write(v.Key, v.Val, v.Gone)
		s.Write(v.Key, v.Val, !v.Gone)
		s.Write("a", "", false)
		s.Look(v.Key)
		s.Writes()
		s.Commit(m)
		s.Open()
		s.Low()
		s.Close()
		s.Close()
		s.Begin(time)
		s.Look(v.Key)
		s.Commit(m)
		s.Snap()
		s.Close()
	}
}

func TestNothingPanics(t *testing.T) {
	what := ""
	defer func() {
		if thrown := recover(); thrown != nil {
			t.Errorf("R1: a call with %s panics: %v", what, thrown)
		}
	}()
	for _, v := range anyWrites() {
		for _, time := range moments() {
			for _, m := range []api.Mark{{}, at(9), {TS: latest, DC: highest, Tx: lowest}} {
				what = fmt.Sprintf("%s, time %d, mark %d", quoted(v), time, m.TS)
				full := begun(t)
				full.commits(at(4), written("a", "x"), gone("b"))
				full.begin(0, 0)
				for _, key := range eight() {
					full.write(api.OK, written(key, "y"))
				}
				for _, s := range []*session.Session{nil, session.New(), full.session} {
					calling(s, time, v, m)
				}
			}
		}
	}
	for _, m := range anyMarks() {
		what = fmt.Sprintf("mark %d %d %d", m.TS, m.DC, m.Tx)
		calling(nil, 0, api.Ver{}, m)
		calling(session.New(), 0, written("a", "x"), m)
	}
}
