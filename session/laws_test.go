package session_test

import (
	"testing"

	"confluence/api"
)

// In long runs of any calls neither Snap nor Low falls, nor is Low below Snap.
func TestSnapAndLowNeverFall(t *testing.T) {
	rises, risesLow := 0, 0
	longRuns(t, 61, 300, 150, func(w *walker) {
		w.promise = "P15.2"
		snap, low := uint64(0), uint64(0)
		w.before = func() { snap, low = w.session.Snap(), w.session.Low() }
		w.behind = func() {
			isSnap, isLow := w.session.Snap(), w.session.Low()
			if isSnap < snap || isLow < low || isLow < isSnap {
				w.wrong("Snap answers %d, Low %d; they were %d and %d", isSnap, isLow, snap, low)
			}
			if isSnap > snap {
				rises++
			}
			if isLow > low {
				risesLow++
			}
		}
	})
	if rises < 1500 || risesLow < 2500 {
		t.Errorf("P15.2: in long runs Snap rose but %d times, Low %d times", rises, risesLow)
	}
}

// Neither falls by Begin of a time below them, by Close, nor by calls that are refused.
func TestSnapAndLowStay(t *testing.T) {
	s := begun(t)
	s.promise = "P15.2"
	s.begin(8, 8)
	s.commit(api.OK, at(20))
	for _, stable := range []uint64{0, 1, 7, 8} {
		s.begin(stable, 8)
		s.want(true, 8, 20)
		s.refuseBegin(api.ErrTx, 0, 7)
		s.commit(api.ErrOld, at(0), at(7), at(8), at(9), at(19), at(20))
		s.want(true, 8, 20)
		s.close(api.OK)
		s.want(false, 8, 20)
		s.commit(api.ErrTx, at(1), at(30))
		s.close(api.ErrTx)
		s.want(false, 8, 20)
	}
}

// owner keeps of a client's commits what is to be found of each key.
type owner struct {
	*walker
	// last has of each key the version of the last commit that wrote it.
	last map[string]api.Ver
	told uint64
}

// wantOwn wants that what was committed of a key is found till Begin is told a time not below it, and not from there on.
func (o *owner) wantOwn(found, gone *int) {
	o.Helper()
	for key, v := range o.last {
		got, kind := o.session.Look(key)
		switch {
		case kind == 1:
		case v.TS <= o.told:
			*gone++
			if kind != 0 {
				o.wrong("Look(%q) answers %s, %d, and Begin was told %d", key, quoted(got), kind, o.told)
			}
		case kind != 2 || got != v:
			o.wrong("Look(%q) answers %s, %d; not %s, and Begin was told %d", key, quoted(got), kind, quoted(v), o.told)
		default:
			*found++
		}
	}
}

// step begins a transaction, wants what is to be found, and commits what it writes, or closes it.
func (o *owner) step(n *numbers, found, gone *int) {
	o.Helper()
	stable := o.session.Snap() + uint64(n.below(9)) - min(4, o.session.Snap())
	if n.below(8) > 0 {
		stable = 0
	}
	o.session.Begin(stable)
	o.did("Begin(%d)", stable)
	o.told = max(o.told, stable)
	o.wantOwn(found, gone)
	for range n.below(5) {
		o.scene.write(api.OK, written(one(n, o.keys), "of another time"))
		o.scene.write(api.OK, written(one(n, o.keys), one(n, strange())))
		o.wantOwn(found, gone)
	}
	m := api.Mark{TS: o.session.Low() + 1 + uint64(n.below(4)), DC: n.below(4), Tx: n.below(900)}
	if n.below(3) == 0 {
		o.scene.close(api.OK)
		return
	}
	for _, v := range o.session.Writes() {
		o.last[v.Key] = by(m, v)
	}
	o.scene.commit(api.OK, m)
}

func TestOwnWritesAreFound(t *testing.T) {
	n, found, gone := numbers(62), 0, 0
	for range 200 {
		o := &owner{walker: newWalker(t, eight(), nil), last: map[string]api.Ver{}}
		o.promise = "P15.3"
		for range 80 {
			o.step(&n, &found, &gone)
			if t.Failed() {
				return
			}
		}
	}
	if found < 20000 || gone < 2000 {
		t.Errorf("P15.3: in long runs but %d were found, and %d not any more", found, gone)
	}
}

// A commit is found through any Begin of a time below it, and not at it nor above it; whichever way the transaction ahead came to its end.
func TestOwnWritesTillBegin(t *testing.T) {
	for _, committed := range []bool{false, true} {
		for _, ts := range []uint64{1, 6, 65536, 1 << 63, latest - 1} {
			for _, last := range []uint64{ts, ts + 1, latest} {
				s := begun(t)
				s.promise = "P15.3"
				s.commits(at(ts), written("a", "x"), gone("b"))
				for _, stable := range []uint64{0, ts / 2, ts - 1, 0} {
					s.begin(stable, max(stable, s.session.Snap()))
					s.look(2, by(at(ts), written("a", "x")), by(at(ts), gone("b")))
					if committed && s.session.Low() < latest-1 {
						s.commit(api.OK, at(s.session.Low()+1))
					} else {
						s.close(api.OK)
					}
				}
				s.begin(last, last)
				s.unknown("a", "b")
			}
		}
	}
}

// In long runs of any calls: an open transaction writes what it wrote last of each key, and no key that it didn't write.
func TestWhatWasWrittenLastIsWritten(t *testing.T) {
	again := 0
	longRuns(t, 63, 300, 150, func(w *walker) {
		w.promise = "P15.4"
		w.behind = func() {
			last := map[string]api.Ver{}
			for _, v := range w.p.written {
				last[v.Key] = v
			}
			if !w.p.open {
				clear(last)
			}
			again += len(w.p.written) - len(last)
			l := w.session.Writes()
			for _, v := range l {
				if v != last[v.Key] {
					w.wrong("Writes has %s, and what was written last is %s", quoted(v), quoted(last[v.Key]))
				}
			}
			if len(l) != len(last) {
				w.wrong("Writes has %d keys, and %d were written", len(l), len(last))
			}
		}
	})
	if again < 20000 {
		t.Errorf("P15.4: in long runs but %d writes were of keys that were written", again)
	}
}

// Each order of writes of one key: the last one stands, and is what is committed.
func TestTheLastWriteOfAKeyIsCommitted(t *testing.T) {
	orders([]api.Ver{written("a", ""), written("a", "x"), written("a", "y"), gone("a")}, func(l []api.Ver) {
		s := begun(t)
		s.promise = "P15.4"
		s.begin(0, 0)
		for _, v := range l {
			s.write(api.OK, v, written("b", v.Val))
			s.writes(v, written("b", v.Val))
			s.look(1, v, written("b", v.Val))
		}
		s.commit(api.OK, at(3))
		s.begin(0, 0)
		s.look(2, by(at(3), l[3]), by(at(3), written("b", l[3].Val)))
	})
}
