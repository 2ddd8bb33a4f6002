package session_test

import (
	"slices"
	"testing"

	"confluence/api"
)

// opened is a scene of a session with a transaction that writes nothing.
func opened(t *testing.T) *scene {
	t.Helper()
	s := begun(t)
	s.begin(5, 5)
	return s
}

// filled is a scene of a session with a transaction that writes as many keys as may be; and what it writes.
func filled(t *testing.T) (*scene, []api.Ver) {
	t.Helper()
	s := opened(t)
	var l []api.Ver
	for _, key := range eight() {
		l = append(l, written(key, "of "+key))
	}
	s.write(api.OK, l...)
	return s, l
}

// Where none is open nothing is written: ahead of all, behind Close and behind Commit, and whatever other error there is.
func TestWriteWhereNoneIsOpen(t *testing.T) {
	s := begun(t)
	for i := range 3 {
		s.write(api.ErrTx, anyWrites()...)
		s.writes()
		s.unknown("a", "b")
		s.begin(0, 0)
		s.writes()
		s.unknown("x")
		s.write(api.OK, written("x", "v"))
		if i%2 == 0 {
			s.close(api.OK)
		} else {
			s.commit(api.OK, at(9))
			s.begin(9, 9)
			return
		}
	}
}

// Each key and value that may be, also with bytes of any kind, gone or not.
func TestWriteOfWhatMayBe(t *testing.T) {
	texts := append(strange(), long(api.MostKey-1), long(api.MostKey))
	vals := append(texts, "", long(api.MostKey+1), long(api.MostVal-1), long(api.MostVal))
	for _, key := range texts {
		for _, val := range vals {
			s := opened(t)
			s.write(api.OK, written(key, val))
			s.writes(written(key, val))
			s.look(1, written(key, val))
		}
		s := opened(t)
		s.write(api.OK, gone(key))
		s.writes(gone(key))
		s.look(1, gone(key))
	}
}

// wantRefused wants an error of these writes, where nothing is written, where something is, and where as many keys as may be are.
func wantRefused(t *testing.T, want api.Errno, l ...api.Ver) {
	t.Helper()
	s := opened(t)
	s.write(want, l...)
	s.writes()
	s.want(true, 5, 5)
	s.write(api.OK, written("b", "y"))
	s.write(want, l...)
	s.writes(written("b", "y"))
	s.want(true, 5, 5)
	for _, v := range l {
		if v.Key != "b" {
			s.unknown(v.Key)
		}
	}
	s, all := filled(t)
	s.write(want, l...)
	s.writes(all...)
	s.want(true, 5, 5)
}

func TestWriteOfWhatIsTooLong(t *testing.T) {
	for _, count := range []int{api.MostKey + 1, api.MostKey + 2, api.MostVal, api.MostVal + 1, 5000} {
		wantRefused(t, api.ErrLong, written(long(count), ""), written(long(count), "x"), gone(long(count)), api.Ver{Key: long(count), Val: "x", Gone: true})
	}
	for _, count := range []int{api.MostVal + 1, api.MostVal + 2, 5000} {
		for _, key := range []string{"b", "e", "", long(api.MostKey), long(api.MostKey + 1)} {
			wantRefused(t, api.ErrLong, written(key, long(count)), api.Ver{Key: key, Val: long(count), Gone: true})
		}
	}
}

func TestWriteOfWhatMayNotBe(t *testing.T) {
	for _, val := range []string{"x", "\x00", long(api.MostVal)} {
		wantRefused(t, api.ErrArg, written("", val), api.Ver{Val: val, Gone: true}, api.Ver{Key: "e", Val: val, Gone: true}, api.Ver{Key: "b", Val: val, Gone: true}, api.Ver{Key: long(api.MostKey), Val: val, Gone: true})
	}
	wantRefused(t, api.ErrArg, written("", ""), gone(""))
}

// Bytes count, not letters.
func TestWriteCountsBytes(t *testing.T) {
	key, val := "äöüäöüäö", "äöüäöüäöäöüäöüäöäöüäöüäöäöüäöüäö"
	s := opened(t)
	s.write(api.OK, written(key, val))
	s.write(api.ErrLong, written(key+"a", ""), written("ä"+key, ""), written("a", val+"a"), written("a", "ä"+val))
	s.writes(written(key, val))
}

// Of a key that is written already the last write counts: with another value, gone, and back again.
func TestWriteAgain(t *testing.T) {
	s := opened(t)
	s.write(api.OK, written("a", "1"), written("b", "2"), written("c", "3"))
	for _, v := range []api.Ver{written("b", "x"), written("b", "x"), gone("b"), gone("b"), written("b", ""), gone("b"), written("b", "2"), written("b", long(api.MostVal)), written("b", "y")} {
		s.write(api.OK, v)
		s.look(1, v)
		s.writes(written("a", "1"), v, written("c", "3"))
	}
	s.write(api.OK, gone("c"), written("a", ""))
	s.writes(written("a", ""), written("b", "y"), gone("c"))
	s.commit(api.OK, at(8))
	s.begin(0, 5)
	s.look(2, by(at(8), written("a", "")), by(at(8), written("b", "y")), by(at(8), gone("c")))
}

// With eight keys there is none more, whichever it is; each of the eight may be written again.
func TestWriteOfEightKeys(t *testing.T) {
	s, l := filled(t)
	ninth := []api.Ver{written("ab", "x"), gone("ab"), written("\x00", ""), written("\xff\xff", "x"), written(long(api.MostKey), long(api.MostVal)), written("e", "")}
	for i, v := range l {
		s.write(api.ErrFull, ninth...)
		s.writes(l...)
		s.unknown("ab", "\x00", "\xff\xff", "e")
		l[i] = []api.Ver{written(v.Key, "again"), gone(v.Key)}[i%2]
		s.write(api.OK, l[i])
		s.writes(l...)
	}
	s.write(api.ErrFull, ninth...)
	s.commit(api.OK, at(6))
	s.begin(0, 5)
	for _, v := range l {
		s.look(2, by(at(6), v))
	}
	s.unknown("ab", "\x00", "\xff\xff", "e")
	s.write(api.OK, ninth...)
}

// Seven keys leave room for one.
func TestWriteOfTheEighthKey(t *testing.T) {
	for _, last := range eight() {
		s := opened(t)
		for _, key := range eight() {
			if key != last {
				s.write(api.OK, written(key, "x"), written(key, "y"))
			}
		}
		s.write(api.OK, gone(last))
		s.write(api.ErrFull, written("e", ""))
		s.write(api.OK, written(last, "z"))
		s.look(1, written(last, "z"))
	}
}

// A key that the cache has counts among the eight like another one.
func TestWriteOfKeysOfTheCache(t *testing.T) {
	s := begun(t)
	s.commits(at(4), written("a", "x"), written("e", "x"), written("z", "x"))
	s.begin(0, 0)
	for _, key := range eight() {
		s.write(api.OK, written(key, "y"))
	}
	s.write(api.ErrFull, written("e", "y"), gone("z"))
	s.look(1, written("a", "y"))
	s.look(2, by(at(4), written("e", "x")), by(at(4), written("z", "x")))
}

// Writes of none, one and more keys: their fields and no others, keys rising in whatever order they were written.
func TestWrites(t *testing.T) {
	s := begun(t)
	s.writes()
	s.begin(latest, latest)
	s.writes()
	s.write(api.OK, written("b", "x"))
	s.writes(written("b", "x"))
	s.close(api.OK)
	s.writes()
	orders([]api.Ver{written("a", "1"), gone("a\x00"), written("b", ""), written("\x80", "4"), gone("\xff")}, func(l []api.Ver) {
		s.begin(0, latest)
		s.write(api.OK, l...)
		s.writes(written("a", "1"), gone("a\x00"), written("b", ""), written("\x80", "4"), gone("\xff"))
		s.close(api.OK)
		s.writes()
		s.calls = nil
	})
}

func TestWritesOfEightInAnyOrder(t *testing.T) {
	n := numbers(11)
	for range 400 {
		s := opened(t)
		var left, want []api.Ver
		for _, key := range strange() {
			if len(left) < api.MostWrites {
				left = append(left, written(key, "of "+key))
			}
		}
		want = slices.Clone(left)
		for len(left) > 0 {
			i := n.below(len(left))
			s.write(api.OK, left[i])
			left = slices.Delete(left, i, i+1)
		}
		s.writes(want...)
	}
}

// What the cache has is no write of the open one, and none is left behind Commit.
func TestWritesIsOfTheOpenOneAlone(t *testing.T) {
	s := begun(t)
	s.commits(at(9), written("a", "x"), gone("b"))
	s.writes()
	s.begin(3, 3)
	s.writes()
	s.write(api.OK, written("a", "y"))
	s.writes(written("a", "y"))
	s.commit(api.OK, at(10))
	s.writes()
	s.close(api.ErrTx)
	s.writes()
}
