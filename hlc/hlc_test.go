package hlc_test

import (
	"math"
	"slices"
	"testing"

	"confluence/api"
	"confluence/hlc"
)

const lastStamp = math.MaxUint64

// noReadings are numbers that no physical clock shows.
var noReadings = []int{-1, -2, -65536, math.MinInt, api.MostMillis + 1, api.MostMillis + 2, 1 << 49, math.MaxInt}

// noLogics are numbers that no logical part is.
var noLogics = []int{-1, -65536, math.MinInt, api.MostLogic + 1, 1 << 17, math.MaxInt}

// readings are the edges of a physical clock, and some between.
var readings = []int{0, 1, 2, 3, 65535, 65536, 1_000_000, api.MostClock, 1<<47 - 1, 1 << 47, api.MostMillis - 1, api.MostMillis}

var logics = []int{0, 1, 2, 255, 256, 32767, 32768, api.MostLogic - 1, api.MostLogic}

// stampsAround are the stamps of all edges of the parts, and of those the ones next to them.
func stampsAround() []uint64 {
	var l []uint64
	for _, ms := range readings {
		for _, logic := range logics {
			t := uint64(ms)*65536 + uint64(logic)
			l = append(l, t-1, t, t+1)
		}
	}
	slices.Sort(l)
	return slices.Compact(l)
}

// numbers is a row of numbers that is the same each time.
type numbers uint64

func (n *numbers) next() uint64 {
	*n = *n*6364136223846793005 + 1442695040888963407
	x := uint64(*n)
	return (x ^ x>>29) * 0x9e3779b97f4a7c15 >> 7
}

func (n *numbers) below(bound int) int { return int(n.next() % uint64(bound)) }

type stamped struct {
	t uint64
	e api.Errno
}

func answer(t uint64, e api.Errno) stamped { return stamped{t, e} }

func TestPackPutsPartsTogether(t *testing.T) {
	for _, c := range []struct {
		ms, logic int
		want      uint64
	}{
		{0, 0, 0},
		{0, 1, 1},
		{1, 0, 65536},
		{1, 2, 65538},
		{0, 65535, 65535},
		{258, 772, 0x01020304},
		{api.MostMillis, 0, 0xffff_ffff_ffff_0000},
		{0x1234_5678_9abc, 0xdef0, 0x1234_5678_9abc_def0},
		{api.MostMillis, api.MostLogic, lastStamp},
	} {
		if got := answer(hlc.Pack(c.ms, c.logic)); got != (stamped{c.want, api.OK}) {
			t.Errorf("P1.1: Pack(%d, %d) is %v, not %d", c.ms, c.logic, got, c.want)
		}
	}
}

func TestPackRefusesWhatAreNoParts(t *testing.T) {
	refused := stamped{0, api.ErrArg}
	for _, ms := range noReadings {
		for _, logic := range slices.Concat(logics, noLogics) {
			if got := answer(hlc.Pack(ms, logic)); got != refused {
				t.Errorf("P1.1: Pack(%d, %d) is %v", ms, logic, got)
			}
		}
	}
	for _, logic := range noLogics {
		for _, ms := range readings {
			if got := answer(hlc.Pack(ms, logic)); got != refused {
				t.Errorf("P1.1: Pack(%d, %d) is %v", ms, logic, got)
			}
		}
	}
}

func TestSplitTakesApart(t *testing.T) {
	for _, c := range []struct {
		t         uint64
		ms, logic int
	}{
		{0, 0, 0},
		{1, 0, 1},
		{65535, 0, 65535},
		{65536, 1, 0},
		{65538, 1, 2},
		{1 << 63, 1 << 47, 0},
		{0x1234_5678_9abc_def0, 0x1234_5678_9abc, 0xdef0},
		{lastStamp - 65535, api.MostMillis, 0},
		{lastStamp, api.MostMillis, api.MostLogic},
	} {
		if ms, logic := hlc.Split(c.t); ms != c.ms || logic != c.logic {
			t.Errorf("P1.1: Split(%d) is %d, %d, not %d, %d", c.t, ms, logic, c.ms, c.logic)
		}
	}
}

func TestSplitUndoesPack(t *testing.T) {
	for _, ms := range readings {
		for _, logic := range logics {
			stamp, e := hlc.Pack(ms, logic)
			if gotMs, gotLogic := hlc.Split(stamp); e != api.OK || gotMs != ms || gotLogic != logic {
				t.Errorf("P1.1: Split(Pack(%d, %d)) is %d, %d, error %d", ms, logic, gotMs, gotLogic, e)
			}
		}
	}
	for _, stamp := range stampsAround() {
		ms, logic := hlc.Split(stamp)
		if got := answer(hlc.Pack(ms, logic)); got != (stamped{stamp, api.OK}) {
			t.Errorf("P1.1: Pack(Split(%d)) is %v", stamp, got)
		}
	}
}

func TestSend(t *testing.T) {
	for _, c := range []struct {
		t    uint64
		ms   int
		want stamped
	}{
		{0, 0, stamped{1, api.OK}},
		{0, 1, stamped{65536, api.OK}},
		{65538, 1, stamped{65539, api.OK}},
		{65538, 2, stamped{131072, api.OK}},
		{65538, 0, stamped{65539, api.OK}},
		{65535, 1, stamped{65536, api.OK}},
		{65536, 1, stamped{65537, api.OK}},
		{65537, 1, stamped{65538, api.OK}},
		{131071, 1, stamped{131072, api.OK}},
		{131071, 0, stamped{131072, api.OK}},
		{1<<63 - 1, 0, stamped{1 << 63, api.OK}},
		{1 << 63, 5, stamped{1<<63 + 1, api.OK}},
		{1, 1 << 47, stamped{1 << 63, api.OK}},
		{0, api.MostMillis, stamped{lastStamp - 65535, api.OK}},
		{lastStamp - 65536, api.MostMillis, stamped{lastStamp - 65535, api.OK}},
		{lastStamp - 65535, api.MostMillis, stamped{lastStamp - 65534, api.OK}},
		{lastStamp - 1, 0, stamped{lastStamp, api.OK}},
		{lastStamp - 1, api.MostMillis, stamped{lastStamp, api.OK}},
		{lastStamp, 0, stamped{0, api.ErrClock}},
		{lastStamp, 77, stamped{0, api.ErrClock}},
		{lastStamp, api.MostMillis, stamped{0, api.ErrClock}},
	} {
		if got := answer(hlc.Send(c.t, c.ms)); got != c.want {
			t.Errorf("P1.1: Send(%d, %d) is %v, not %v", c.t, c.ms, got, c.want)
		}
	}
}

func TestRecv(t *testing.T) {
	for _, c := range []struct {
		t, got uint64
		ms     int
		want   stamped
	}{
		{5, 70000, 0, stamped{70001, api.OK}},
		{70000, 5, 0, stamped{70001, api.OK}},
		{70000, 70000, 0, stamped{70001, api.OK}},
		{0, 0, 0, stamped{1, api.OK}},
		{5, 7, 1, stamped{65536, api.OK}},
		{5, 65536, 1, stamped{65537, api.OK}},
		{65536, 5, 1, stamped{65537, api.OK}},
		{5, 131071, 1, stamped{131072, api.OK}},
		{1, 1 << 63, 9, stamped{1<<63 + 1, api.OK}},
		{1 << 63, 1, 9, stamped{1<<63 + 1, api.OK}},
		{0, lastStamp - 1, 0, stamped{lastStamp, api.OK}},
		{0, lastStamp, 0, stamped{0, api.ErrClock}},
		{lastStamp, 0, 0, stamped{0, api.ErrClock}},
		{lastStamp, lastStamp, api.MostMillis, stamped{0, api.ErrClock}},
		{0, 9, api.MostMillis, stamped{lastStamp - 65535, api.OK}},
	} {
		if got := answer(hlc.Recv(c.t, c.got, c.ms)); got != c.want {
			t.Errorf("P1.1: Recv(%d, %d, %d) is %v, not %v", c.t, c.got, c.ms, got, c.want)
		}
	}
}

func TestRecvIsSendOfTheGreater(t *testing.T) {
	stamps := stampsAround()
	for _, a := range stamps {
		for _, b := range stamps {
			for _, ms := range []int{0, 1, 65536, api.MostMillis, -1, api.MostMillis + 1} {
				got, want := answer(hlc.Recv(a, b, ms)), answer(hlc.Send(max(a, b), ms))
				if got != want {
					t.Fatalf("P1.1: Recv(%d, %d, %d) is %v, not %v", a, b, ms, got, want)
				}
			}
		}
	}
}

func TestRaise(t *testing.T) {
	for _, c := range []struct {
		t    uint64
		ms   int
		want uint64
	}{
		{0, 0, 0},
		{5, 0, 5},
		{5, 1, 65536},
		{65535, 1, 65536},
		{65536, 1, 65536},
		{65537, 1, 65537},
		{1 << 63, 1, 1 << 63},
		{1, 1 << 47, 1 << 63},
		{0, api.MostMillis, lastStamp - 65535},
		{lastStamp - 65535, api.MostMillis, lastStamp - 65535},
		{lastStamp, 0, lastStamp},
		{lastStamp, api.MostMillis, lastStamp},
	} {
		if got := answer(hlc.Raise(c.t, c.ms)); got != (stamped{c.want, api.OK}) {
			t.Errorf("P1.1: Raise(%d, %d) is %v, not %d", c.t, c.ms, got, c.want)
		}
	}
}

// A reading that is none is told ahead of a clock that is at its end.
func TestClocksRefuseWhatIsNoReading(t *testing.T) {
	refused := stamped{0, api.ErrArg}
	for _, ms := range noReadings {
		for _, stamp := range []uint64{0, 5, 65536, 1 << 63, lastStamp - 1, lastStamp} {
			if got := answer(hlc.Send(stamp, ms)); got != refused {
				t.Errorf("P1.1: Send(%d, %d) is %v", stamp, ms, got)
			}
			if got := answer(hlc.Raise(stamp, ms)); got != refused {
				t.Errorf("P1.1: Raise(%d, %d) is %v", stamp, ms, got)
			}
			if got := answer(hlc.Recv(stamp, 3, ms)); got != refused {
				t.Errorf("P1.1: Recv(%d, 3, %d) is %v", stamp, ms, got)
			}
			if got := answer(hlc.Recv(3, stamp, ms)); got != refused {
				t.Errorf("P1.1: Recv(3, %d, %d) is %v", stamp, ms, got)
			}
		}
	}
}

// checkStep tells what one step of a clock breaks: known are the clock's last stamp and the one that came.
func checkStep(t *testing.T, next uint64, ms int, known ...uint64) {
	t.Helper()
	greatest := slices.Max(known)
	if next <= greatest {
		t.Errorf("P1.2: %d isn't above %d", next, greatest)
	}
	if next < uint64(ms)*65536 {
		t.Errorf("P1.2: %d is below the reading %d", next, ms)
	}
	physical, logic := hlc.Split(next)
	before, full := hlc.Split(greatest)
	if physical <= max(ms, before) {
		return
	}
	if full != api.MostLogic || physical != before+1 || logic != 0 {
		t.Errorf("P1.3: %d (%d, %d) is behind %d and the reading %d without a carry", next, physical, logic, greatest, ms)
	}
}

func TestStampsRiseAtTheEdges(t *testing.T) {
	stamps := stampsAround()
	for _, last := range stamps {
		for _, ms := range readings {
			if next, e := hlc.Send(last, ms); e == api.OK {
				checkStep(t, next, ms, last)
			} else if e != api.ErrClock || last != lastStamp {
				t.Errorf("P1.2: Send(%d, %d): error %d", last, ms, e)
			}
			for _, got := range stamps {
				if next, e := hlc.Recv(last, got, ms); e == api.OK {
					checkStep(t, next, ms, last, got)
				} else if e != api.ErrClock || max(last, got) != lastStamp {
					t.Errorf("P1.2: Recv(%d, %d, %d): error %d", last, got, ms, e)
				}
			}
		}
	}
}

// Physical clocks here stand, go on, go back and leap; what comes is behind and ahead.
func TestStampsOfAClockRise(t *testing.T) {
	n := numbers(1)
	for run := range 200 {
		var clock uint64
		ms := n.below(1 << 20)
		for step := range 300 {
			ms = max(0, ms+n.below(7)-3)
			if n.below(50) == 0 {
				ms = n.below(1 << 40)
			}
			var next uint64
			var e api.Errno
			if got := uint64(n.below(1 << 50)); n.below(2) == 0 {
				next, e = hlc.Recv(clock, got, ms)
				checkStep(t, next, ms, clock, got)
			} else {
				next, e = hlc.Send(clock, ms)
				checkStep(t, next, ms, clock)
			}
			if e != api.OK {
				t.Fatalf("P1.2: run %d, step %d: error %d", run, step, e)
			}
			clock = next
		}
	}
}

// As long as no logical part is full, a clock's physical part is one that it was given.
func TestPhysicalPartIsOneThatWasGiven(t *testing.T) {
	n := numbers(7)
	for range 200 {
		var clock uint64
		greatest := 0
		for range 300 {
			ms := n.below(5000)
			came, logic := n.below(5000), n.below(100)
			got, _ := hlc.Pack(came, logic)
			if n.below(2) == 0 {
				greatest = max(greatest, ms, came)
				clock, _ = hlc.Recv(clock, got, ms)
			} else {
				greatest = max(greatest, ms)
				clock, _ = hlc.Send(clock, ms)
			}
			if physical, _ := hlc.Split(clock); physical != greatest {
				t.Fatalf("P1.3: physical part %d, the greatest given is %d", physical, greatest)
			}
		}
	}
}

func TestFullLogicalPartIsCarried(t *testing.T) {
	for _, ms := range []int{0, 1, 77, api.MostMillis - 1} {
		full, _ := hlc.Pack(ms, api.MostLogic)
		carried, _ := hlc.Pack(ms+1, 0)
		if got := answer(hlc.Send(full, ms)); got != (stamped{carried, api.OK}) {
			t.Errorf("P1.3: Send(%d, %d) is %v", full, ms, got)
		}
		if got := answer(hlc.Recv(0, full, ms)); got != (stamped{carried, api.OK}) {
			t.Errorf("P1.3: Recv(0, %d, %d) is %v", full, ms, got)
		}
	}
	clock, _ := hlc.Pack(9, 0)
	for range api.MostLogic {
		clock, _ = hlc.Send(clock, 9)
	}
	if ms, logic := hlc.Split(clock); ms != 9 || logic != api.MostLogic {
		t.Errorf("P1.3: behind 65535 steps: %d, %d", ms, logic)
	}
	clock, _ = hlc.Send(clock, 9)
	if ms, logic := hlc.Split(clock); ms != 10 || logic != 0 {
		t.Errorf("P1.3: behind the carry: %d, %d", ms, logic)
	}
}

func TestCmp(t *testing.T) {
	for _, c := range []struct {
		a, b api.Mark
		want int
	}{
		{api.Mark{}, api.Mark{}, 0},
		{api.Mark{TS: 3, DC: 1, Tx: 2}, api.Mark{TS: 3, DC: 1, Tx: 2}, 0},
		{api.Mark{TS: 3, DC: 1, Tx: 2}, api.Mark{TS: 3, DC: 1, Tx: 9}, -1},
		{api.Mark{TS: 3, DC: 1, Tx: 2}, api.Mark{TS: 3, DC: 2, Tx: 2}, -1},
		{api.Mark{TS: 3, DC: 1, Tx: 2}, api.Mark{TS: 4, DC: 1, Tx: 2}, -1},
		{api.Mark{TS: 3, DC: 1, Tx: 9}, api.Mark{TS: 3, DC: 2, Tx: 1}, -1},
		{api.Mark{TS: 3, DC: 3, Tx: 1}, api.Mark{TS: 4, DC: 1, Tx: 1}, -1},
		{api.Mark{TS: 3, DC: 3, Tx: 9}, api.Mark{TS: 4, DC: 0, Tx: 0}, -1},
		{api.Mark{TS: 3, DC: 1, Tx: 9}, api.Mark{TS: 3, DC: 1, Tx: 10}, -1},
		{api.Mark{TS: 9, DC: 1, Tx: 1}, api.Mark{TS: 10, DC: 1, Tx: 1}, -1},
		{api.Mark{TS: 1}, api.Mark{TS: 1 << 63}, -1},
		{api.Mark{TS: 1<<63 - 1}, api.Mark{TS: lastStamp}, -1},
		{api.Mark{TS: 0}, api.Mark{TS: lastStamp}, -1},
		{api.Mark{DC: -1}, api.Mark{DC: 0}, -1},
		{api.Mark{DC: math.MinInt}, api.Mark{DC: math.MaxInt}, -1},
		{api.Mark{Tx: -1}, api.Mark{Tx: 0}, -1},
		{api.Mark{Tx: math.MinInt}, api.Mark{Tx: math.MaxInt}, -1},
		{api.Mark{Tx: 1}, api.Mark{Tx: 1 << 32}, -1},
	} {
		if got := hlc.Cmp(c.a, c.b); got != c.want {
			t.Errorf("P1.1: Cmp(%v, %v) is %d, not %d", c.a, c.b, got, c.want)
		}
		if got := hlc.Cmp(c.b, c.a); got != -c.want {
			t.Errorf("P1.1: Cmp(%v, %v) is %d, not %d", c.b, c.a, got, -c.want)
		}
	}
}

// marksAround are all marks of some parts; many are alike in one part or in two.
func marksAround() []api.Mark {
	var l []api.Mark
	for _, ts := range []uint64{0, 1, 65536, 1 << 63, lastStamp} {
		for _, dc := range []int{math.MinInt, -1, 0, 1, api.MostDC - 1, math.MaxInt} {
			for _, tx := range []int{math.MinInt, -1, 0, 1, api.MostTx, math.MaxInt} {
				l = append(l, api.Mark{TS: ts, DC: dc, Tx: tx})
			}
		}
	}
	return l
}

// The marks of marksAround rise, so that their places say how any two are ordered.
func TestMarksHaveOneOrder(t *testing.T) {
	l := marksAround()
	for i, a := range l {
		for k, b := range l {
			want := 0
			if i < k {
				want = -1
			} else if i > k {
				want = 1
			}
			if got := hlc.Cmp(a, b); got != want {
				t.Fatalf("P1.4: Cmp(%v, %v) is %d, not %d", a, b, got, want)
			}
		}
	}
}

func TestWhatIsAheadOfWhatIsAheadIsAhead(t *testing.T) {
	n := numbers(3)
	few := func() api.Mark {
		return api.Mark{TS: uint64(n.below(3)), DC: n.below(3), Tx: n.below(3)}
	}
	for range 100_000 {
		a, b, c := few(), few(), few()
		if hlc.Cmp(a, b) != -hlc.Cmp(b, a) || (hlc.Cmp(a, b) == 0) != (a == b) {
			t.Fatalf("P1.4: Cmp(%v, %v) is %d, and turned round %d", a, b, hlc.Cmp(a, b), hlc.Cmp(b, a))
		}
		if hlc.Cmp(a, b) < 0 && hlc.Cmp(b, c) < 0 && hlc.Cmp(a, c) >= 0 {
			t.Fatalf("P1.4: %v, %v, %v rise, and the first isn't ahead of the last", a, b, c)
		}
	}
}

func TestOf(t *testing.T) {
	for _, c := range []struct {
		v    api.Ver
		want api.Mark
	}{
		{api.Ver{}, api.Mark{}},
		{api.Ver{TS: 1, DC: 2, Tx: 3}, api.Mark{TS: 1, DC: 2, Tx: 3}},
		{api.Ver{Key: "a", Val: "x", TS: 9, DC: 1, Tx: 70000}, api.Mark{TS: 9, DC: 1, Tx: 70000}},
		{api.Ver{Key: "a", Gone: true, TS: lastStamp, DC: -4, Tx: math.MinInt}, api.Mark{TS: lastStamp, DC: -4, Tx: math.MinInt}},
	} {
		if got := hlc.Of(c.v); got != c.want {
			t.Errorf("P1.1: Of(%v) is %v", c.v, got)
		}
	}
}

func TestLast(t *testing.T) {
	low, mid, high := api.Mark{TS: 3, Tx: 99}, api.Mark{TS: 3, DC: 1, Tx: 2}, api.Mark{TS: 3, DC: 1, Tx: 9}
	for _, c := range []struct {
		l    []api.Mark
		want int
	}{
		{nil, -1},
		{[]api.Mark{}, -1},
		{[]api.Mark{low, high}[:0], -1},
		{[]api.Mark{{}}, 0},
		{[]api.Mark{high}, 0},
		{[]api.Mark{low, mid, high}, 2},
		{[]api.Mark{high, mid, low}, 0},
		{[]api.Mark{mid, high, low}, 1},
		{[]api.Mark{low, mid, high}[:2], 1},
		{[]api.Mark{mid, high, low, high}, 1},
		{[]api.Mark{high, high, high}, 0},
		{[]api.Mark{{}, {}}, 0},
		{[]api.Mark{{TS: 1}, {TS: 1 << 63}, {TS: 2}}, 1},
		{[]api.Mark{{TS: 1, DC: 3, Tx: 9}, {TS: 2}}, 1},
		{[]api.Mark{{DC: -2}, {DC: -1, Tx: -7}, {DC: -1, Tx: -9}}, 1},
		{[]api.Mark{{Tx: math.MinInt}}, 0},
	} {
		if got := hlc.Last(c.l); got != c.want {
			t.Errorf("P1.1: Last(%v) is %d, not %d", c.l, got, c.want)
		}
	}
}

// The list that is handed in is neither put in order nor changed in its spare room.
func TestLastIsTheFirstGreatest(t *testing.T) {
	n := numbers(5)
	for size := range 60 {
		for range 40 {
			whole := make([]api.Mark, size+4)
			for i := range whole {
				whole[i] = api.Mark{TS: uint64(n.below(4)), DC: n.below(3), Tx: n.below(3)}
			}
			before := slices.Clone(whole)
			got := hlc.Last(whole[:size])
			want := -1
			if size > 0 {
				want = slices.Index(before[:size], slices.MaxFunc(before[:size], hlc.Cmp))
			}
			if got != want {
				t.Fatalf("P1.1: Last(%v) is %d, not %d", before[:size], got, want)
			}
			if !slices.Equal(whole, before) {
				t.Fatalf("R3: Last changed %v to %v", before, whole)
			}
		}
	}
}
