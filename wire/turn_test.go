package wire_test

import (
	"bytes"
	"math"
	"slices"
	"testing"

	"confluence/api"
	"confluence/wire"
)

func wantTurned(t *testing.T, promise string, from, to int, body, want []byte) {
	t.Helper()
	ahead := slices.Clone(body)
	got, e := wire.Turn(from, to, body)
	if !bytes.Equal(got, want) || e != api.OK {
		t.Errorf("%s: Turn(%d, %d, %x) is %x with error %d, not %x", promise, from, to, body, got, e, want)
	}
	if !bytes.Equal(body, ahead) {
		t.Errorf("R3: Turn(%d, %d) made %x of %x", from, to, body, ahead)
	}
	spoil(got)
	if !bytes.Equal(body, ahead) {
		t.Errorf("R3: what Turn(%d, %d, %x) answers is what it was handed", from, to, body)
	}
}

func TestTurn(t *testing.T) {
	for _, m := range append(sample(), fullest()) {
		elder, newer := refElder(m), refNewer(m)
		wantTurned(t, "P4.1", 1, 2, elder, newer)
		wantTurned(t, "P4.1", 2, 1, newer, elder)
		wantTurned(t, "P4.1", 1, 1, elder, elder)
		wantTurned(t, "P4.1", 2, 2, newer, newer)
	}
}

func TestTurnedThereAndBack(t *testing.T) {
	for _, m := range sample() {
		for _, version := range versions {
			body, _ := wire.Encode(version, m)
			there, e := wire.Turn(version, 3-version, body)
			if e != api.OK {
				t.Errorf("P4.3: Turn(%d, %d, %x) is error %d", version, 3-version, body, e)
				continue
			}
			wantTurned(t, "P4.3", 3-version, version, there, body)
		}
	}
}

// Decode's error comes ahead of Encode's.
func TestTurnOfWhatIsNoBody(t *testing.T) {
	for _, to := range noVersions {
		for _, from := range versions {
			body := refEncode(from, whole())
			if b, e := wire.Turn(from, to, body); len(b) != 0 || e != api.ErrWire {
				t.Errorf("P4.1: Turn(%d, %d, %x) is %x with error %d, not nothing with error %d", from, to, body, b, e, api.ErrWire)
			}
			wantTurnError(t, from, to, nil, api.ErrShort)
			wantTurnError(t, from, to, []byte{0}, api.ErrKind)
			wantTurnError(t, from, to, append(body, 0), api.ErrForm)
			wantTurnError(t, from, to, body[:len(body)-1], api.ErrShort)
		}
		wantTurnError(t, to, to, nil, api.ErrWire)
		wantTurnError(t, to, 1, []byte{0x0c, 1, 5}, api.ErrWire)
	}
	// A body of the one version is none of the other.
	wantTurnError(t, 1, 2, []byte{0x0c, 1, 5}, api.ErrShort)
	wantTurnError(t, 2, 1, refElder(api.Msg{Kind: 12, Id: 5}), api.ErrForm)
	for _, from := range versions {
		for _, to := range versions {
			wantTurnError(t, from, to, nil, api.ErrShort)
			wantTurnError(t, from, to, []byte{27}, api.ErrKind)
		}
	}
}

func wantTurnError(t *testing.T, from, to int, body []byte, want api.Errno) {
	t.Helper()
	if b, e := wire.Turn(from, to, body); len(b) != 0 || e != want {
		t.Errorf("P4.1: Turn(%d, %d, %x) is %x with error %d, not nothing with error %d", from, to, body, b, e, want)
	}
}

// noModes are numbers of no mode.
var noModes = []int{0, 4, 5, -1, -2, -3, 255, 256, 257, 1 << 32, 1<<32 + 1, 1<<32 + 2, math.MaxInt, math.MinInt, math.MinInt + 1}

func TestAgree(t *testing.T) {
	for _, c := range []struct{ own, other, want int }{
		{api.Elder, api.Elder, 1}, {api.Elder, api.Both, 1}, {api.Both, api.Elder, 1},
		{api.Both, api.Both, 2}, {api.Both, api.Newer, 2}, {api.Newer, api.Both, 2}, {api.Newer, api.Newer, 2},
		{api.Elder, api.Newer, 0}, {api.Newer, api.Elder, 0},
	} {
		wantAgreed(t, c.own, c.other, c.want)
	}
	for _, none := range noModes {
		for _, mode := range append([]int{1, 2, 3}, noModes...) {
			wantAgreed(t, none, mode, 0)
			wantAgreed(t, mode, none, 0)
		}
	}
}

func wantAgreed(t *testing.T, own, other, want int) {
	t.Helper()
	if got := wire.Agree(own, other); got != want {
		t.Errorf("P4.1: Agree(%d, %d) is %d, not %d", own, other, got, want)
	}
}

func TestTakes(t *testing.T) {
	takes := map[[2]int]bool{{api.Elder, 1}: true, {api.Both, 1}: true, {api.Both, 2}: true, {api.Newer, 2}: true}
	for _, mode := range append([]int{1, 2, 3}, noModes...) {
		for _, version := range append([]int{1, 2}, noVersions...) {
			if got, want := wire.Takes(mode, version), takes[[2]int{mode, version}]; got != want {
				t.Errorf("P4.1: Takes(%d, %d) is %t, not %t", mode, version, got, want)
			}
		}
	}
}

func TestWhatIsAgreedBothTake(t *testing.T) {
	modes := append([]int{1, 2, 3}, noModes...)
	for _, own := range modes {
		for _, other := range modes {
			agreed := wire.Agree(own, other)
			if agreed != 0 && !(wire.Takes(own, agreed) && wire.Takes(other, agreed)) {
				t.Errorf("P4.4: the modes %d and %d agree on version %d, which not both take", own, other, agreed)
			}
			for version := -3; version <= 5; version++ {
				if agreed == 0 && wire.Takes(own, version) && wire.Takes(other, version) {
					t.Errorf("P4.4: the modes %d and %d agree on no version, but both take %d", own, other, version)
				}
			}
		}
	}
}
