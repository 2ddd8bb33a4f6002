package session_test

import (
	"fmt"
	"math"
	"slices"
	"strings"
	"testing"

	"confluence/api"
	"confluence/session"
)

const (
	latest  = math.MaxUint64
	highest = math.MaxInt
	lowest  = math.MinInt
)

// numbers is a row of numbers that is the same each time.
type numbers uint64

func (n *numbers) next() uint64 {
	*n = *n*6364136223846793005 + 1442695040888963407
	x := uint64(*n)
	return (x ^ x>>29) * 0x9e3779b97f4a7c15
}

func (n *numbers) below(bound int) int { return int(n.next() >> 12 % uint64(bound)) }

// one is any of a list.
func one[E any](n *numbers, l []E) E { return l[n.below(len(l))] }

// orders calls with each order of a list.
func orders[E any](l []E, each func([]E)) {
	var choose func(chosen, left []E)
	choose = func(chosen, left []E) {
		if len(left) == 0 {
			each(chosen)
		}
		for i, e := range left {
			choose(append(slices.Clone(chosen), e), slices.Delete(slices.Clone(left), i, i+1))
		}
	}
	choose(nil, l)
}

// moments are times at both ends and in the midst; they rise.
func moments() []uint64 {
	return []uint64{0, 1, 2, 5, 65535, 65536, 1 << 32, 1<<63 - 1, 1 << 63, latest - 1, latest}
}

// ends are numbers at both ends and in the midst; they rise.
func ends() []int {
	return []int{lowest, lowest + 1, -1 << 32, -2, -1, 0, 1, 2, 9, 1 << 32, 1<<32 + 1, highest - 1, highest}
}

// strange are texts with bytes of all kinds, that may be keys; they rise.
func strange() []string {
	return []string{"\x00", "\x00\x00", "\n", " ", "A", "a", "a\x00", "aa", "b", "\x7f", "\x80", "\xc3\xa4", "\xe2\x82", "\xff", "\xff\x00", "\xff\xff"}
}

// eight are as many keys as may be written; they rise.
func eight() []string { return []string{"a", "aa", "b", "c", "d", "k", "\x80", "\xff"} }

// long is a text of so many bytes.
func long(count int) string { return strings.Repeat("\xffk\x00", count)[:count] }

// written is a version as it stands with an open transaction.
func written(key, val string) api.Ver { return api.Ver{Key: key, Val: val} }

// gone is a version of a key that is deleted.
func gone(key string) api.Ver { return api.Ver{Key: key, Gone: true} }

// by is the version as the commit of a mark has it.
func by(m api.Mark, v api.Ver) api.Ver {
	v.TS, v.DC, v.Tx = m.TS, m.DC, m.Tx
	return v
}

// at is a mark of this time.
func at(ts uint64) api.Mark { return api.Mark{TS: ts, DC: 2, Tx: 7} }

func quoted(v api.Ver) string {
	return fmt.Sprintf("(%.20q %.20q %t %d %d %d)", v.Key, v.Val, v.Gone, v.TS, v.DC, v.Tx)
}

func quotedAll(l []api.Ver) string {
	var b strings.Builder
	for _, v := range l {
		b.WriteString(quoted(v))
	}
	return "[" + b.String() + "]"
}

// scene is a session, and what was done with it.
type scene struct {
	*testing.T
	session *session.Session
	promise string
	calls   []string
}

// begun is a scene of a session that has seen nothing.
func begun(t *testing.T) *scene {
	return &scene{T: t, session: session.New(), promise: "P15.1", calls: []string{"New()"}}
}

// did puts a call behind those that were done.
func (s *scene) did(call string, a ...any) { s.calls = append(s.calls, fmt.Sprintf(call, a...)) }

// wrong tells what is wrong behind the last ones of the calls that were done.
func (s *scene) wrong(what string, a ...any) {
	s.Helper()
	story := strings.Join(s.calls[max(0, len(s.calls)-25):], ", ")
	s.Errorf("%s: behind %s: %s", s.promise, story, fmt.Sprintf(what, a...))
}

// wantLast wants this error of the last one of the calls.
func (s *scene) wantLast(got, want api.Errno) {
	s.Helper()
	if got != want {
		s.wrong("the last answers %d, not %d", int(got), int(want))
	}
}

// begin wants that a transaction is opened, and that it reads at a time.
func (s *scene) begin(stable, snap uint64) {
	s.Helper()
	got, e := s.session.Begin(stable)
	s.did("Begin(%d)", stable)
	if got != snap || e != api.OK {
		s.wrong("the last answers %d, %d; not %d, 0", got, int(e), snap)
	}
}

// refuseBegin wants an error of Begin of each of these times, and nothing beside it.
func (s *scene) refuseBegin(want api.Errno, times ...uint64) {
	s.Helper()
	for _, stable := range times {
		got, e := s.session.Begin(stable)
		s.did("Begin(%d)", stable)
		if got != 0 || e != want {
			s.wrong("the last answers %d, %d; not 0, %d", got, int(e), int(want))
		}
	}
}

// write wants the same error of each of these writes.
func (s *scene) write(want api.Errno, l ...api.Ver) {
	s.Helper()
	for _, v := range l {
		e := s.session.Write(v.Key, v.Val, v.Gone)
		s.did("Write(%.20q, %.20q, %t)", v.Key, v.Val, v.Gone)
		s.wantLast(e, want)
	}
}

func (s *scene) close(want api.Errno) {
	s.Helper()
	e := s.session.Close()
	s.did("Close")
	s.wantLast(e, want)
}

// commit wants the same error of Commit of each of these marks.
func (s *scene) commit(want api.Errno, l ...api.Mark) {
	s.Helper()
	for _, m := range l {
		e := s.session.Commit(m)
		s.did("Commit(%d %d %d)", m.TS, m.DC, m.Tx)
		s.wantLast(e, want)
	}
}

// commits begins a transaction that writes these, and commits it.
func (s *scene) commits(m api.Mark, l ...api.Ver) {
	s.Helper()
	s.begin(0, s.session.Snap())
	s.write(api.OK, l...)
	s.commit(api.OK, m)
}

// look wants that a version of its key is found, of this kind.
func (s *scene) look(kind int, l ...api.Ver) {
	s.Helper()
	for _, v := range l {
		if got, is := s.session.Look(v.Key); got != v || is != kind {
			s.wrong("Look(%.20q) answers %s, %d; not %s, %d", v.Key, quoted(got), is, quoted(v), kind)
		}
	}
}

// unknown wants that nothing is found of each of these keys.
func (s *scene) unknown(keys ...string) {
	s.Helper()
	for _, key := range keys {
		if got, is := s.session.Look(key); got != (api.Ver{}) || is != 0 {
			s.wrong("Look(%.20q) answers %s, %d; not nothing", key, quoted(got), is)
		}
	}
}

// writes wants that these are what the open transaction writes.
func (s *scene) writes(want ...api.Ver) {
	s.Helper()
	for range 2 {
		if got := s.session.Writes(); !slices.Equal(got, want) {
			s.wrong("Writes answers %s, not %s", quotedAll(got), quotedAll(want))
		}
	}
}

// want wants Open, Snap and Low, also when they are asked again.
func (s *scene) want(open bool, snap, low uint64) {
	s.Helper()
	for range 2 {
		if is := s.session.Open(); is != open {
			s.wrong("Open answers %t, not %t", is, open)
		}
		if is := s.session.Snap(); is != snap {
			s.wrong("Snap answers %d, not %d", is, snap)
		}
		if is := s.session.Low(); is != low {
			s.wrong("Low answers %d, not %d", is, low)
		}
	}
}

// anyKeys are keys of all kinds, those too that none may be.
func anyKeys() []string {
	return append(append(strange(), eight()...), "", long(api.MostKey-1), long(api.MostKey), long(api.MostKey+1), long(5000))
}

// anyWrites are writes of all kinds, those too that are refused.
func anyWrites() []api.Ver {
	var l []api.Ver
	for _, key := range anyKeys() {
		for _, val := range []string{"", "x", "\x00\xff", long(api.MostVal), long(api.MostVal + 1), long(5000)} {
			l = append(l, written(key, val), api.Ver{Key: key, Val: val, Gone: true})
		}
	}
	return l
}

// anyMarks are marks of all kinds.
func anyMarks() []api.Mark {
	var l []api.Mark
	for _, ts := range moments() {
		l = append(l, at(ts), api.Mark{TS: ts})
	}
	for _, n := range ends() {
		l = append(l, api.Mark{TS: 9, DC: n}, api.Mark{TS: 9, Tx: n}, api.Mark{TS: latest, DC: n, Tx: n}, api.Mark{DC: n, Tx: -n})
	}
	return l
}
