package chain_test

import (
	"fmt"
	"slices"
	"testing"

	"confluence/api"
	"confluence/chain"
)

// inRoom is a list that stands in the midst of others, with spare room behind it; and all of its room.
func inRoom(l []api.Ver) (inside, room []api.Ver) {
	for i := range 3 {
		room = append(room, api.Ver{Key: "ahead", TS: uint64(i), DC: i})
	}
	room = append(room, l...)
	for i := range 12 {
		room = append(room, api.Ver{Key: "behind", TS: uint64(i), DC: i})
	}
	return room[3 : 3+len(l)], room
}

func wantRoomAsItWas(t *testing.T, promise, call string, room, l []api.Ver) {
	t.Helper()
	if _, was := inRoom(l); !slices.Equal(room, was) {
		t.Errorf("%s: behind %s what was handed in is, with what is around it, %s", promise, call, told(room))
	}
}

// spoilList overwrites a list with its spare room.
func spoilList(l []api.Ver) {
	l = l[:cap(l)]
	for i := range l {
		l[i] = api.Ver{Key: "spoilt " + l[i].Key, Gone: !l[i].Gone, TS: 5000 - l[i].TS, Tx: -i}
	}
}

// growList puts something into a list's spare room.
func growList(l []api.Ver) {
	for i := range 10 {
		l = append(l, api.Ver{Key: "more than there is", TS: uint64(i)})
	}
}

// answer is what a call answers; those that answer less leave the rest zero.
type answer struct {
	l    []api.Ver
	seen seen
	went int
	e    api.Errno
}

func (a answer) same(b answer) bool {
	return slices.Equal(a.l, b.l) && a.seen == b.seen && a.went == b.went && a.e == b.e
}

func (a answer) own() answer {
	a.l = own(a.l)
	return a
}

func (a answer) String() string {
	return fmt.Sprintf("[%s; %v; %d went; error %d]", told(a.l), a.seen, a.went, a.e)
}

// call is a call with two lists, of which some take but the first.
type call struct {
	name string
	do   func(a, b []api.Ver) answer
}

func (c call) of(a, b []api.Ver) string {
	return fmt.Sprintf("%s of %s and %s", c.name, told(a), told(b))
}

func putting(v api.Ver) call {
	return call{"Put(a, " + quoted(v) + ")", func(a, b []api.Ver) answer {
		l, e := chain.Put(a, v)
		return answer{l: l, e: e}
	}}
}

func asking(snap uint64) call {
	return call{fmt.Sprintf("At(a, %d)", snap), func(a, b []api.Ver) answer { return answer{seen: seenAt(a, snap)} }}
}

func trimming(floor uint64) call {
	return call{fmt.Sprintf("Trim(a, %d)", floor), func(a, b []api.Ver) answer {
		l, went := chain.Trim(a, floor)
		return answer{l: l, went: went}
	}}
}

func joining() call {
	return call{"Join(a, b)", func(a, b []api.Ver) answer {
		l, e := chain.Join(a, b)
		return answer{l: l, e: e}
	}}
}

// calls are such as have something to do with a list, and such as have nothing to do.
func calls(l []api.Ver) []call {
	some := []call{joining()}
	for _, v := range []api.Ver{ver(0, lowest, lowest), ver(latest, highest, highest), ver(4, 0, 5), ver(6, 1, 1)} {
		some = append(some, putting(v))
	}
	for _, time := range []uint64{0, 4, 1 << 63, latest} {
		some = append(some, asking(time), trimming(time))
	}
	for _, v := range few(l, 3) {
		some = append(some, putting(v), putting(valued(v, v.Val+"x")), asking(v.TS), trimming(v.TS), trimming(v.TS+1))
	}
	return some
}

// others are lists to be joined with a list: such as go together with it, and such as don't.
func others(l []api.Ver) [][]api.Ver {
	some := [][]api.Ver{nil, own(l), times(1000, 2, 8, 1<<50), rising(20)}
	if len(l) > 0 {
		v := l[len(l)-1]
		some = append(some, []api.Ver{v}, []api.Ver{ver(4, 4, 4), v, valued(v, v.Val+"x")}, append(neighbours(v), l[0]))
	}
	return some
}

// eachCall goes through all lists, with all calls and others.
func eachCall(t *testing.T, do func(c call, a, b []api.Ver)) {
	for _, a := range allLists() {
		for _, c := range calls(a) {
			for _, b := range others(a) {
				do(c, a, b)
			}
		}
		if t.Failed() {
			return
		}
	}
}

// What is handed in stays, also where it is refused; twice the same is answered the same (R2).
func TestWhatIsHandedInStays(t *testing.T) {
	eachCall(t, func(c call, a, b []api.Ver) {
		insideA, roomA := inRoom(a)
		insideB, roomB := inRoom(b)
		got := c.do(insideA, insideB)
		promise := "P9.6"
		if got.e != api.OK {
			promise = "R6"
		}
		wantRoomAsItWas(t, promise, c.of(a, b), roomA, a)
		wantRoomAsItWas(t, promise, c.of(a, b), roomB, b)
		if again := c.do(own(a), own(b)); !again.same(got) {
			t.Errorf("R2: %s answers %v, and then %v", c.of(a, b), got, again)
		}
	})
}

// With what was handed in changed behind the call, what was answered stays as it was, and so does what is answered to others.
func TestWhatIsHandedInIsNotKept(t *testing.T) {
	eachCall(t, func(c call, a, b []api.Ver) {
		want := c.do(own(a), own(b)).own()
		insideA, roomA := inRoom(a)
		insideB, roomB := inRoom(b)
		got := c.do(insideA, insideB)
		spoilList(roomA)
		spoilList(roomB)
		if !got.same(want) {
			t.Errorf("P9.6: with the lists changed behind it, %s is %v, not %v", c.of(a, b), got, want)
		}
		if again := c.do(own(a), own(b)); !again.same(want) {
			t.Errorf("R2: behind others that were changed, %s is %v, not %v", c.of(a, b), again, want)
		}
	})
}

// A list that was changed is another one to the next call.
func TestChangedListsAreTakenAsTheyAre(t *testing.T) {
	eachCall(t, func(c call, a, b []api.Ver) {
		handed, handedB := own(a), own(b)
		c.do(handed, handedB)
		spoilList(handed)
		spoilList(handedB)
		want := c.do(own(handed), own(handedB)).own()
		if got := c.do(handed, handedB); !got.same(want) {
			t.Errorf("R3: of lists that were changed, %s is %v, not %v", c.of(handed, handedB), got, want)
		}
	})
}

// What is answered is changed by whom it was told to: neither what was handed in nor another answer changes.
func TestAnswersAreNewMemory(t *testing.T) {
	eachCall(t, func(c call, a, b []api.Ver) {
		insideA, roomA := inRoom(a)
		insideB, roomB := inRoom(b)
		got := c.do(insideA, insideB)
		want := got.own()
		again := c.do(insideA, insideB)
		roomOfAgain := own(again.l[:cap(again.l)])
		growList(got.l)
		spoilList(got.l)
		if !slices.Equal(again.l[:cap(again.l)], roomOfAgain) {
			t.Errorf("P9.6: with one answer of %s changed, another one is with its spare room %s", c.of(a, b), told(again.l[:cap(again.l)]))
		}
		wantRoomAsItWas(t, "P9.6", "a change of what was answered by "+c.of(a, b), roomA, a)
		wantRoomAsItWas(t, "P9.6", "a change of what was answered by "+c.of(a, b), roomB, b)
		for _, other := range []answer{again, c.do(insideA, insideB)} {
			if !other.same(want) {
				t.Errorf("P9.6: with one answer of %s changed, another one is %v, not %v", c.of(a, b), other, want)
			}
		}
	})
}

// An answer stays while other calls answer theirs.
func TestAnswersStay(t *testing.T) {
	for _, a := range allLists() {
		var all, wants []answer
		for _, c := range calls(a) {
			got := c.do(a, times(1000, 2, 8))
			all, wants = append(all, got), append(wants, got.own())
		}
		for i, got := range all {
			if !got.same(wants[i]) {
				t.Errorf("R3: of %s, behind other calls the answer of %s is %v, not %v", told(a), calls(a)[i].name, got, wants[i])
			}
		}
	}
}

// One list goes from call to call, each of which is spoilt when the next one is over.
func TestAnswersOfAnswers(t *testing.T) {
	var l, want []api.Ver
	r := numbers(11)
	for step := range 400 {
		c, b := putting(anyVersion(&r)), times(uint64(r.below(5)))
		switch step % 8 {
		case 3:
			c = trimming(uint64(r.below(2)))
		case 6:
			c = joining()
		}
		next, wantNext := c.do(l, b), c.do(own(want), own(b)).own()
		growList(l)
		spoilList(l)
		spoilList(b)
		if !next.same(wantNext) {
			t.Fatalf("P9.6: with the list changed that it was made of, call %d, %s, answers %v, not %v", step, c.name, next, wantNext)
		}
		if next.e != api.OK {
			l = own(want)
			continue
		}
		l, want = next.l, wantNext.l
		wantChain(t, "P9.2", "what was made", l)
	}
}

// The two lists of a Join may be pieces of one, or the same.
func TestJoinOfPiecesOfOneList(t *testing.T) {
	for _, l := range append([][]api.Ver{times(9, 7, 5, 3, 1), times(3, 9, 5, 9, 3), times(2, 4, 6, 1, 3, 5)}, chains()...) {
		for i := range len(l) + 1 {
			if i > 40 {
				break
			}
			for _, c := range [][2][]api.Ver{{l[:i], l[i:]}, {l[i:], l[:i]}, {l[:i], l}, {l, l[:i]}, {l[i:], l}, {l[i:i], l[i:]}} {
				was := own(l)
				wantAlikeJoin(t, c[0], c[1])
				if !slices.Equal(l, was) {
					t.Fatalf("P9.6: Join of pieces of %s makes it %s", told(was), told(l))
				}
			}
		}
	}
}

// A list of no elements means the same, nil or not, in spare room too.
func TestNilAndEmptyLists(t *testing.T) {
	for _, c := range append(calls(nil), calls(times(3, 7))...) {
		for _, b := range others(times(3, 7)) {
			want := c.do(nil, b)
			for _, empty := range [][]api.Ver{{}, times(3, 7)[:0], times(3, 7)[2:]} {
				if got := c.do(empty, b); !got.same(want) {
					t.Errorf("R4: %s is %v with a list that isn't nil, and %v with nil", c.of(empty, b), got, want)
				}
				if got, want := c.do(b, empty), c.do(b, nil); !got.same(want) {
					t.Errorf("R4: %s is %v with a list that isn't nil, and %v with nil", c.of(b, empty), got, want)
				}
			}
		}
	}
}

// No call panics, at whatever it is handed.
func TestNothingPanics(t *testing.T) {
	calling := "nothing"
	defer func() {
		if thrown := recover(); thrown != nil {
			t.Errorf("R1: %s panics: %v", calling, thrown)
		}
	}()
	r := numbers(12)
	for _, a := range append(allLists(), make([]api.Ver, 1000), anyList(&r, 1000)) {
		for _, c := range append(calls(a), calls(nil)...) {
			for _, b := range others(a) {
				calling = c.of(a, b)
				c.do(a, b)
				calling = c.of(b, a)
				c.do(b, a)
			}
		}
	}
}

// What stands beside an error, and beside false.
func TestBesideErrorsIsNothing(t *testing.T) {
	eachCall(t, func(c call, a, b []api.Ver) {
		got := c.do(a, b)
		if got.e != api.OK && len(got.l) > 0 {
			t.Errorf("R5: %s answers %v", c.of(a, b), got)
		}
		if !got.seen.there && got.seen.v != (api.Ver{}) {
			t.Errorf("R5: %s answers %v", c.of(a, b), got)
		}
	})
}
