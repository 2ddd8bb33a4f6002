package order_test

import (
	"slices"
	"testing"

	"confluence/api"
	"confluence/order"
)

func wantCopied(t *testing.T, r api.Rec) {
	t.Helper()
	if got := order.Copy(r); !isSame(got, r) {
		t.Errorf("P13.1: Copy of %s is %s", quoted(r), quoted(got))
	}
}

// Commits of no versions, of one and of many.
func TestCopyOfSoManyVersions(t *testing.T) {
	for count := range 12 {
		wantCopied(t, sized(count, 9, 1, 4))
	}
	wantCopied(t, sized(api.MostVers, 9, 1, 4))
	wantCopied(t, sized(3*api.MostVers, 9, 1, 4))
	wantCopied(t, writing(rec(9, 1, 4), []api.Ver{}...))
	wantCopied(t, writing(rec(9, 1, 4), make([]api.Ver, 0, 5)...))
	wantCopied(t, writing(rec(9, 1, 4), written(8, 9, 1, 4)[:3]...))
	wantCopied(t, api.Rec{})
}

// Each field of a commit at both ends and in the midst.
func TestCopyOfAnyField(t *testing.T) {
	for _, ts := range moments() {
		for _, dc := range ends() {
			for _, tx := range ends() {
				wantCopied(t, rec(ts, dc, tx))
				wantCopied(t, api.Rec{TS: ts, DC: dc, Tx: tx})
			}
		}
	}
}

// Each field of a version, alone and with all others; a version's mark needn't be the commit's.
func TestCopyOfAnyVersion(t *testing.T) {
	for _, v := range strange() {
		wantCopied(t, writing(rec(5, 0, 1), v))
		wantCopied(t, writing(rec(5, 0, 1), v, v, api.Ver{}))
	}
	wantCopied(t, writing(rec(5, 0, 1), strange()...))
	wantCopied(t, api.Rec{Vers: strange()})
	wantCopied(t, api.Rec{Vers: slices.Repeat(strange(), 30)})
}

// The order of the versions stays, whatever their keys and marks are, and those that are the same stay too.
func TestCopyKeepsTheOrderOfVersions(t *testing.T) {
	a, b := api.Ver{Key: "a", Val: "1", TS: 9}, api.Ver{Key: "b", Val: "2", TS: 3}
	for _, l := range [][]api.Ver{{a, b}, {b, a}, {a, a}, {b, a, b, a}, {b, b, a}} {
		wantCopied(t, writing(rec(5, 0, 1), l...))
	}
}
