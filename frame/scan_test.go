package frame_test

import (
	"bytes"
	"slices"
	"testing"

	"confluence/api"
	"confluence/frame"
)

// rowOf is frames' bytes one behind the other, and what is to be told of them.
func rowOf(frames []api.Frame) ([]byte, []told) {
	var b []byte
	var row []told
	for _, f := range frames {
		row = append(row, told{len(b), f})
		b = append(b, refPack(f)...)
	}
	return b, row
}

func sumAnother(f api.Frame) []byte {
	b := refPack(f)
	b[len(b)-1] ^= 1
	return b
}

// notRight is bytes that are no right frame, for each first thing that may be wrong, and right frames behind them, where these can't change that.
func notRight() map[string][]byte {
	right := refPack(made(1, 2, 3, 4, []byte("right")))
	l := map[string][]byte{
		"no bytes":                  {},
		"a 0":                       {0},
		"a 0 and others":            append([]byte{0}, right...),
		"one byte":                  {1},
		"16 bytes":                  head(1, 0)[:16],
		"a great count":             head(1, 1<<20+1),
		"a great count and others":  append(head(1, 1<<32-1), right...),
		"a head":                    head(1, 0),
		"a head, of a long body":    head(1, 1<<20),
		"all but a byte":            right[:len(right)-1],
		"another sum":               sumAnother(api.Frame{Version: 1}),
		"another sum and others":    append(sumAnother(api.Frame{Version: 9, Body: []byte("x")}), right...),
		"a frame that is cut short": append(head(1, 60), right...),
	}
	for what, b := range l {
		l[what] = slices.Clip(b)
	}
	return l
}

func TestScanOfNothing(t *testing.T) {
	wantRow(t, "P5.1", nil, nil)
	wantRow(t, "P5.1", []byte{}, nil)
	wantRow(t, "P5.1", refPack(api.Frame{Version: 1})[:0], nil)
	if frame.Scan(nil) == nil {
		t.Error("R7: the answer of Scan of nothing can't be ranged over")
	}
}

func TestScanOfFrames(t *testing.T) {
	for _, f := range sample() {
		b, row := rowOf([]api.Frame{f})
		wantRow(t, "P5.1", b, row)
	}
	b, row := rowOf(sample())
	wantRow(t, "P5.1", b, row)
	n := numbers(41)
	for count := range 40 {
		var frames []api.Frame
		for range count {
			frames = append(frames, n.frame(n.below(300)))
		}
		b, row := rowOf(frames)
		wantRow(t, "P5.1", b, row)
	}
	same := made(1, 2, 3, 4, []byte("same"))
	b, row = rowOf([]api.Frame{same, same, same})
	wantRow(t, "P5.1", b, row)
}

func TestScanOfTheLongestFrame(t *testing.T) {
	n := numbers(42)
	b, row := rowOf([]api.Frame{n.frame(1 << 20), {Version: 1}, n.frame(1 << 20)})
	wantRow(t, "P5.1", b, row)
	wantRow(t, "P5.1", b[:len(b)-1], row[:2])
}

func TestScanEndsAtWhatIsNotRight(t *testing.T) {
	n := numbers(43)
	for what, wrong := range notRight() {
		for count := range 4 {
			var frames []api.Frame
			for range count {
				frames = append(frames, n.frame(n.below(30)))
			}
			b, row := rowOf(frames)
			wantRow(t, "P5.1: Scan with "+what+" behind", append(b, wrong...), row)
		}
	}
}

func TestScanOfARowThatIsCut(t *testing.T) {
	b, _ := rowOf(sample()[:6])
	for length := range len(b) + 1 {
		wantRow(t, "P5.1", b[:length], refScan(b[:length]))
	}
}

func TestScanOfAnyBytes(t *testing.T) {
	n := numbers(44)
	for i := range 5000 {
		var frames []api.Frame
		for range n.below(5) {
			frames = append(frames, n.frame(n.below(20)))
		}
		b, _ := rowOf(frames)
		if len(b) > 0 {
			change(&n, b, i%3)
		}
		b = append(b, n.bytes(n.below(30))...)
		wantRow(t, "P5.1 and R1", b, refScan(b))
	}
}

// What Unpack answers of one frame's bytes is what Scan tells of them.
func TestScanAndUnpack(t *testing.T) {
	b, row := rowOf(sample())
	for i, one := range row {
		end := len(b)
		if i+1 < len(row) {
			end = row[i+1].begin
		}
		wantUnpacked(t, "P5.1", b[one.begin:end], one.f)
	}
}

func TestScanLeftEarly(t *testing.T) {
	b, row := rowOf(sample())
	frames := frame.Scan(b)
	for count := 1; count <= len(row); count++ {
		var got []told
		for begin, f := range frames {
			got = append(got, told{begin, f})
			if len(got) == count {
				break
			}
		}
		if !sameRow(got, row[:count]) {
			t.Errorf("R7: left behind %d frames, the row told %v", count, got)
		}
	}
	calls := 0
	frames(func(int, api.Frame) bool { calls++; return false })
	if calls != 1 {
		t.Errorf("R7: a row that is left at once goes on for %d frames", calls)
	}
}

func TestScanRangedOverAgain(t *testing.T) {
	b, row := rowOf(sample())
	frames := frame.Scan(append(b, 0))
	for time := range 3 {
		var got []told
		for begin, f := range frames {
			got = append(got, told{begin, f})
		}
		if !sameRow(got, row) {
			t.Errorf("R7: ranged over for time %d, the row tells %v", time+1, got)
		}
	}
}

func TestScanRangedOverWithin(t *testing.T) {
	b, row := rowOf(sample()[:5])
	frames := frame.Scan(b)
	i := 0
	for begin, f := range frames {
		var inner []told
		for begin, f := range frames {
			inner = append(inner, told{begin, f})
		}
		if i >= len(row) || begin != row[i].begin || !same(f, row[i].f) || !sameRow(inner, row) {
			t.Fatalf("R7: ranged over within itself, the row tells %d and %v, within %v", begin, f, inner)
		}
		i++
	}
	if i != len(row) {
		t.Errorf("R7: ranged over within itself, the row tells %d frames", i)
	}
}

func TestScanLeavesItsBytes(t *testing.T) {
	b, row := rowOf(sample())
	whole := append(append([]byte("ahead"), b...), "behind"...)
	was := slices.Clone(whole)
	for _, f := range frame.Scan(whole[5 : 5+len(b)]) {
		spoil(f.Body)
		_ = append(f.Body, "more than was there, into the spare room if there is some"...)
	}
	if !bytes.Equal(whole, was) {
		t.Errorf("R3: bytes with what is around them are %x, and were %x", whole, was)
	}
	wantRow(t, "R3", whole[5:5+len(b)], row)
}

// The row is of the bytes as they were at the call.
func TestScanKeepsNothing(t *testing.T) {
	b, row := rowOf(sample())
	was := slices.Clone(b)
	frames := frame.Scan(b)
	spoil(b)
	for time := range 2 {
		var got []told
		for begin, f := range frames {
			got = append(got, told{begin, f})
		}
		if !sameRow(got, row) {
			t.Errorf("R3: with the bytes changed behind the call, the row tells %v at time %d", got, time+1)
		}
	}
	copy(b, was)
	frames = frame.Scan(b)
	var got []told
	for begin, f := range frames {
		got = append(got, told{begin, f})
		spoil(b)
	}
	if !sameRow(got, row) {
		t.Errorf("R3: with the bytes changed while it is ranged over, the row tells %v", got)
	}
}

func TestScannedBodiesShareNothing(t *testing.T) {
	b, row := rowOf(sample())
	frames := frame.Scan(b)
	var got []told
	for begin, f := range frames {
		got = append(got, told{begin, f})
	}
	var again []told
	for begin, f := range frames {
		again = append(again, told{begin, f})
	}
	for i := range got {
		spoil(got[i].f.Body)
		_ = append(got[i].f.Body, "more"...)
		for j := i + 1; j < len(got); j++ {
			if !same(got[j].f, row[j].f) {
				t.Fatalf("R3: with the body of frame %d spoilt, frame %d is %v", i, j, got[j].f)
			}
		}
	}
	if !sameRow(again, row) {
		t.Errorf("R3: with the bodies of one way through the row spoilt, those of another are %v", again)
	}
	for begin, f := range frames {
		if begin != row[0].begin || !same(f, row[0].f) {
			t.Errorf("R3: with bodies spoilt, the row begins with %v at %d", f, begin)
		}
		break
	}
}
