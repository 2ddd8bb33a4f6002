package coord_test

import (
	"strings"
	"testing"

	"confluence/coord"
)

// spread is a scene of a table with several transactions, whose keys are b, d, f, h, k and m.
func spread(t *testing.T) *scene {
	t.Helper()
	s := started(t, 1, 0, share(0, keyed("d", "b")...), share(1, keyed("m")...))
	s.starts(start(2, 0, share(3, keyed("f")...)), start(3, 0, share(2, keyed("k", "d")...), share(1), share(0, keyed("h")...)))
	return s
}

// Without transactions nothing is touched, with an end of the span and without.
func TestTouchesOfNone(t *testing.T) {
	s := made(t)
	s.touches(false, "", "")
	s.touches(false, "a", "z")
	s.touches(false, "a", "")
	s.touches(false, "", "z")
}

// A span without an end has all keys from lo on.
func TestTouchesWithoutHi(t *testing.T) {
	s := started(t, 1, 0, share(0, keyed("m")...))
	for _, lo := range []string{"", "\x00", "a", "l\xff", "m"} {
		s.touches(true, lo, "")
	}
	for _, lo := range []string{"m\x00", "ma", "n", "z", "\x80", "\xff"} {
		s.touches(false, lo, "")
	}
}

// A span with an empty lo has all keys below hi.
func TestTouchesWithoutLo(t *testing.T) {
	s := started(t, 1, 0, share(0, keyed("m")...))
	for _, hi := range []string{"m\x00", "ma", "n", "z", "\x80", "\xff"} {
		s.touches(true, "", hi)
	}
	for _, hi := range []string{"\x00", "a", "l\xff", "m"} {
		s.touches(false, "", hi)
	}
}

// A key that is lo is in the span, one that is hi isn't; one just below hi is, one just below lo isn't.
func TestTouchesAtTheEnds(t *testing.T) {
	for _, c := range []struct{ below, key, behind string }{{"a", "a\x00", "a\x00\x00"}, {"\x00", "\x00\x00", "\x01"}, {"lzz", "m", "m\x00"}, {"\x7f\xff", "\x80", "\x80\x00"}, {"\xc3", "\xc3\xa4", "\xc3\xa5"}, {"\xfe\xff", "\xff", "\xff\x00"}, {strings.Repeat("\xff", 15), strings.Repeat("\xff", 16), strings.Repeat("\xff", 17)}} {
		s := started(t, 1, 0, share(0, keyed(c.key)...))
		s.touches(true, c.key, c.behind)
		s.touches(true, c.below, c.behind)
		s.touches(true, c.key, "")
		s.touches(true, "", c.behind)
		s.touches(false, c.below, c.key)
		s.touches(false, "", c.key)
		s.touches(false, c.behind, "")
		s.touches(false, c.behind, c.behind+"\xff")
		s.touches(false, "", c.below)
	}
	s := started(t, 1, 0, share(0, keyed("")...))
	s.touches(true, "", "")
	s.touches(true, "", "\x00")
	s.touches(false, "\x00", "")
}

// A span whose hi is lo or below it, and isn't empty, has no keys.
func TestTouchesOfEmptySpans(t *testing.T) {
	s := spread(t)
	for i, lo := range strange() {
		for _, hi := range strange()[1 : i+1] {
			s.touches(false, lo, hi)
		}
	}
	for _, key := range []string{"b", "d", "f", "h", "k", "m"} {
		s.touches(false, key, key)
		s.touches(false, key+"\x00", key)
		s.touches(false, "z", key)
		s.touches(false, key, "a")
		s.touches(true, key, key+"\x00")
	}
}

// Whichever of the transactions, shares and versions has the key.
func TestTouchesOfMany(t *testing.T) {
	s := spread(t)
	for _, key := range []string{"b", "d", "f", "h", "k", "m"} {
		s.touches(true, key, key+"a")
		s.touches(true, key+"", key+"\x00")
	}
	for _, gap := range [][2]string{{"", "b"}, {"a", "b"}, {"b\x00", "d"}, {"d\x00", "f"}, {"f\x00", "h"}, {"h\x00", "k"}, {"k\x00", "m"}, {"m\x00", ""}, {"m\x00", "z"}} {
		s.touches(false, gap[0], gap[1])
	}
	s.touches(true, "b\x00", "d\x00")
	s.touches(true, "a", "z")
	s.touches(true, "", "")
}

// What touches a span does till it has gone: ahead of votes, while it is decided, and while a node, be it the key's own, has ended.
func TestTouchesTillItHasGone(t *testing.T) {
	s := spread(t)
	wants := func(m, f, d bool) {
		t.Helper()
		s.touches(m, "m", "n")
		s.touches(f, "f", "g")
		s.touches(d, "d", "e")
		s.touches(m || f || d, "", "")
	}
	wants(true, true, true)
	s.takes(vote(1, 1, 9))
	wants(true, true, true)
	s.decides(9, vote(1, 0, 4))
	wants(true, true, true)
	s.takes(end(1, 1))
	wants(true, true, true)
	s.goes(end(1, 0))
	wants(false, true, true)
	s.touches(false, "b", "c")
	s.votes(2, 1, 3)
	s.ends(2, 3)
	wants(false, false, true)
	s.votes(3, 1, 0, 1, 2)
	s.ends(3, 1, 0, 2)
	wants(false, false, false)
	s.starts(start(1, 0, share(0, keyed("f")...)))
	wants(false, true, false)
}

// Versions of all kinds touch, also those that say that a key is gone; what else they say says nothing.
func TestTouchesOfVersionsOfAllKinds(t *testing.T) {
	for _, v := range strangeVersions() {
		s := started(t, latest, latest, share(lowest, v))
		s.touches(true, v.Key, v.Key+"\x00")
		s.touches(false, v.Key+"\x00", "")
		s.touches(true, "", "")
	}
	s := started(t, 1, 0, share(0), share(1))
	s.touches(false, "", "")
}

// All spans of the texts, held against each key by itself.
func TestTouchesOfAllSpans(t *testing.T) {
	keys := []string{"", "\x00\x00", "A", "a\x00", "m", "\x80", "\xe2\x82", "\xff\x00"}
	for chosen := range 1 << len(keys) {
		var shares []coord.Share
		for i, key := range keys {
			if chosen>>i&1 == 1 {
				shares = append(shares, share(i, version(key, "x")))
			}
		}
		s := made(t)
		if len(shares) > 0 {
			s.starts(start(3, 0, shares...))
		}
		for _, lo := range strange() {
			for _, hi := range strange() {
				s.touches(touched(versionsOf(shares), lo, hi), lo, hi)
			}
		}
	}
}
