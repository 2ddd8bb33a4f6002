package store_test

import (
	"fmt"
	"runtime"
	"slices"
	"strings"
	"testing"

	"confluence/api"
	"confluence/store"
)

// inRoom is a list that stands in the midst of others, with spare room behind it; and all of its room.
func inRoom(l []api.Ver) (inside, room []api.Ver) {
	for i := range 3 {
		room = append(room, api.Ver{Key: "ahead", TS: uint64(i), DC: i})
	}
	room = append(room, l...)
	for i := range 12 {
		room = append(room, api.Ver{Key: "behind", TS: uint64(i)})
	}
	return room[3 : 3+len(l)], room
}

// spoilList overwrites a list with its spare room.
func spoilList(l []api.Ver) {
	l = l[:cap(l)]
	for i := range l {
		l[i] = api.Ver{Key: "spoilt", Val: l[i].Key, TS: 5000 - l[i].TS, Tx: i}
	}
}

// lists are such as are taken, such as are refused, and such as are both.
func lists() [][]api.Ver {
	r := numbers(61)
	var refused []api.Ver
	for _, f := range allFlaws() {
		refused = append(refused, f.v)
	}
	return [][]api.Ver{nil, times("k", 3, 7), times("k", 9, 7, 7, 3), strange(), r.shuffled(strange()), append(strange(), strange()...), refused, anyVersions(&r, 100), rightOnes()}
}

func TestListsThatAreHandedInStay(t *testing.T) {
	for _, floor := range []uint64{0, 5, 12, latest} {
		for _, l := range lists() {
			s := with(t, floor, times("k", 3, 5))
			inside, room := inRoom(l)
			s.Load(inside)
			s.Trim(floor)
			s.Load(inside)
			s.Drop("", "m")
			s.Load(inside)
			if _, was := inRoom(l); !slices.Equal(room, was) {
				t.Errorf("R3: behind Load of %s the list is, with what is around it, %s", told(l), told(room))
			}
		}
	}
}

func TestListsThatAreHandedInAreNotKept(t *testing.T) {
	for _, floor := range []uint64{0, 5, 12, latest} {
		for _, l := range lists() {
			s, other := with(t, floor, times("k", 3, 5)), with(t, floor, times("k", 3, 5))
			inside, room := inRoom(l)
			s.Load(inside)
			other.Load(slices.Clone(l))
			want := wholeOf(other, few(l))
			spoilList(room)
			wantWhole(t, "R3", "with the list changed that it was loaded with,", s, few(l), want)
			s.Load(room[:0])
			wantWhole(t, "R3", "with the list changed that it was loaded with,", s, few(l), want)
		}
	}
}

// few are enough of a list to ask for.
func few(l []api.Ver) []api.Ver { return l[:min(len(l), 40)] }

// What was told stays, whatever becomes of the store; and what becomes of it changes nothing in the store.
func TestAnswersAreNewMemory(t *testing.T) {
	s := with(t, 0, strange())
	want := wholeOf(s, strange())
	l := allIn(s, "", "")
	held := within(strange(), "ab", "abc")
	once := get(s, "ab", latest)
	spoilList(l)
	for v := range s.All("", "") {
		v.Key, v.Val, v.TS = "spoilt", "spoilt", 0
		l = append(l, v)
	}
	wantWhole(t, "R3", "with what it told changed,", s, strange(), want)
	s.Trim(latest)
	s.Drop("", "")
	s.Load(times("ab", 1, 2, 3))
	if want := (seen{held[len(held)-1], true, api.OK}); once != want {
		t.Errorf("R3: what Get answered is, behind other calls, %v, not %v", once, want)
	}
	if !slices.Equal(want.all, strange()) {
		t.Errorf("R3: what All told is, behind other calls, %s", told(want.all))
	}
}

// Nothing that is kept belongs to two stores.
func TestStoresAreApart(t *testing.T) {
	first, second := with(t, 0, strange()), with(t, 12, times("ab", 3, 20))
	of := append(strange(), times("ab", 3, 20)...)
	wants := [2]whole{wholeOf(first, of), wholeOf(second, of)}
	busy := store.New()
	busy.Load(strange())
	busy.Load(allIn(first, "", ""))
	busy.Load(allIn(second, "", ""))
	busy.Put(marked("ab", 15, 3, 3))
	busy.Trim(latest)
	busy.Drop("", "")
	store.New().Trim(50)
	wantWhole(t, "R2", "behind calls of another one", first, of, wants[0])
	wantWhole(t, "R2", "behind calls of another one", second, of, wants[1])
	first.Trim(14)
	first.Drop("a", "m")
	first.Put(ver("ab", 15))
	wantWhole(t, "R2", "behind calls of another one", second, of, wants[1])
	wantHolds(t, "R2", "behind calls of others, a new one", store.New(), 0, nil)
	// Loaded with what the other one tells, each still has its own.
	third := store.New()
	third.Load(allIn(second, "", ""))
	third.Put(ver("ab", 4))
	third.Put(ver("zz", 4))
	wantWhole(t, "R2", "with its versions in another one,", second, of, wants[1])
}

// The same calls answer the same.
func TestSameCallsAnswerTheSame(t *testing.T) {
	answers := func() []string {
		r, s := numbers(62), store.New()
		var all []string
		for range 400 {
			key, time := anyVersion(&r).Key, uint64(r.below(14))
			switch r.below(8) {
			case 0:
				all = append(all, fmt.Sprint("Trim ", s.Trim(time/2)))
			case 1:
				all = append(all, fmt.Sprint("Drop ", s.Drop(key, key+"\x00")))
			case 2:
				all = append(all, fmt.Sprint("Load ", s.Load(anyVersions(&r, 5))))
			default:
				all = append(all, fmt.Sprint("Put ", int(s.Put(anyVersion(&r)))))
			}
			all = append(all, get(s, key, time).String(), told(allIn(s, "", key)), fmt.Sprint(s.Len(), s.Floor()))
		}
		return all
	}
	want := answers()
	for range 3 {
		if got := answers(); !slices.Equal(got, want) {
			t.Fatal("R2: the same calls once more answer others")
		}
	}
}

// What stands beside errors and beside a false.
func TestBesideErrorsIsNothing(t *testing.T) {
	s := with(t, 0, strange())
	s.Trim(12)
	var none *store.Store
	for _, key := range append(strangeKeys(), "", "nobody's") {
		for _, snap := range moments(strange()) {
			for _, got := range []seen{get(s, key, snap), get(none, key, snap)} {
				if (got.e != api.OK || !got.there) && got.v != (api.Ver{}) || got.e != api.OK && got.there {
					t.Errorf("R5: Get(%q, %d) is %v", key, snap, got)
				}
			}
		}
	}
}

// heap is how many bytes are in use.
func heap() uint64 {
	runtime.GC()
	var m runtime.MemStats
	runtime.ReadMemStats(&m)
	return m.HeapAlloc
}

// What went is not asked for any more, and so is not to be kept; nor are long texts of which a piece came.
func TestNoMoreIsKeptThanIsNeeded(t *testing.T) {
	s := store.New()
	before := heap()
	wantLittleKept := func(when string) {
		t.Helper()
		if after := heap(); after > before+1<<19 {
			t.Errorf("rule 8 of the language: with %s a store keeps %d bytes", when, after-before)
		}
	}
	for i := range 40 {
		text := strings.Repeat(fmt.Sprintf("%02d", i), 1<<19)
		wantPut(t, "P10.1", s, api.Ver{Key: text[:2], Val: text[2:60], TS: uint64(i)}, api.OK)
		wantPut(t, "P10.1", s, api.Ver{Key: text[:2], Val: text[:2], TS: uint64(i)}, api.ErrForm)
		wantPut(t, "P10.1", s, api.Ver{Key: "k", Val: text, TS: uint64(i)}, api.ErrLong)
		wantCount(t, "P10.1", "Load", s.Load([]api.Ver{{Key: text[1:16], TS: uint64(i)}, {Key: text[:16], Val: text[:64], TS: uint64(i)}}), 2)
		s.Get(text, 0)
		allIn(s, text, text)
		s.Drop(text, text)
	}
	wantLittleKept("short pieces of long texts")
	for i := range 20000 {
		wantPut(t, "P10.1", s, api.Ver{Key: fmt.Sprint("key ", i%200), Val: long(64), TS: uint64(i)}, api.OK)
	}
	wantCount(t, "P10.1", "Trim", s.Trim(20000), 19800)
	wantLittleKept("all but one of each key gone")
	wantCount(t, "P10.1", "Drop", s.Drop("key", "kez"), 200)
	for round := range 30 {
		for i := range 2000 {
			wantPut(t, "P10.1", s, api.Ver{Key: fmt.Sprintf("key %d %d", round, i), Val: long(64)}, api.OK)
		}
		wantCount(t, "P10.1", "Drop", s.Drop("key", "kez"), 2000)
	}
	wantLittleKept("all dropped, of many keys,")
	runtime.KeepAlive(s)
}
