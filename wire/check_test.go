package wire_test

import (
	"fmt"
	"math"
	"slices"
	"strings"
	"testing"

	"confluence/api"
	"confluence/wire"
)

// wantWrong holds Check, and Encode in both versions, to an error.
func wantWrong(t *testing.T, what string, m api.Msg, want api.Errno) {
	t.Helper()
	if e := wire.Check(m); e != want {
		t.Errorf("P4.1: Check of %s is %d, not %d", what, e, want)
	}
	for _, version := range versions {
		b, e := wire.Encode(version, m)
		if e != want {
			t.Errorf("P4.1: Encode(%d) of %s is error %d, not %d", version, what, e, want)
		}
		if want != api.OK && len(b) != 0 {
			t.Errorf("R5: Encode(%d) of %s has %d bytes beside error %d", version, what, len(b), e)
		}
	}
}

func TestCheckKinds(t *testing.T) {
	for kind := 1; kind <= 26; kind++ {
		wantWrong(t, fmt.Sprint("kind ", kind), api.Msg{Kind: kind}, api.OK)
	}
	for _, kind := range []int{0, 27, 28, -1, -26, 255, 256, 257, 256 + 26, 1<<32 + 1, math.MaxInt, math.MinInt, math.MinInt + 1} {
		wantWrong(t, fmt.Sprint("kind ", kind), api.Msg{Kind: kind}, api.ErrKind)
	}
}

// edge is a change of a message, and what Check says of it then.
type edge struct {
	what   string
	change func(*api.Msg)
	want   api.Errno
}

func key(length int) string { return strings.Repeat("k", length) }

// verEdges are those of one version in the list.
func verEdges(at int) []edge {
	change := func(what string, want api.Errno, do func(*api.Ver)) edge {
		return edge{fmt.Sprintf("version %d with %s", at, what), func(m *api.Msg) { do(&m.Vers[at]) }, want}
	}
	l := []edge{
		change("a Key of 16 bytes", api.OK, func(v *api.Ver) { v.Key = key(16) }),
		change("a Key of 17 bytes", api.ErrLong, func(v *api.Ver) { v.Key = key(17) }),
		change("a Key of 272 bytes", api.ErrLong, func(v *api.Ver) { v.Key = key(272) }),
		change("a Val of 64 bytes", api.OK, func(v *api.Ver) { v.Val = key(64) }),
		change("a Val of 65 bytes", api.ErrLong, func(v *api.Ver) { v.Val = key(65) }),
		change("a Val of 257 bytes", api.ErrLong, func(v *api.Ver) { v.Val = key(257) }),
	}
	for dc, want := range map[int]api.Errno{-1: api.ErrArg, 0: api.OK, 3: api.OK, 4: api.ErrArg, 256: api.ErrArg, math.MinInt: api.ErrArg, math.MaxInt: api.ErrArg} {
		l = append(l, change(fmt.Sprint("DC ", dc), want, func(v *api.Ver) { v.DC = dc }))
	}
	for tx, want := range map[int]api.Errno{-1: api.ErrArg, 0: api.OK, 1 << 30: api.OK, 1<<30 + 1: api.ErrArg, 1 << 32: api.ErrArg, math.MinInt: api.ErrArg, math.MaxInt: api.ErrArg} {
		l = append(l, change(fmt.Sprint("Tx ", tx), want, func(v *api.Ver) { v.Tx = tx }))
	}
	return l
}

func cmdEdges() []edge {
	fields := []struct {
		name string
		of   func(*api.Cmd) *int
	}{
		{"Kind", func(c *api.Cmd) *int { return &c.Kind }},
		{"DC", func(c *api.Cmd) *int { return &c.DC }},
		{"Shard", func(c *api.Cmd) *int { return &c.Shard }},
		{"Node", func(c *api.Cmd) *int { return &c.Node }},
		{"Mode", func(c *api.Cmd) *int { return &c.Mode }},
	}
	var l []edge
	for _, field := range fields {
		for n, want := range map[int]api.Errno{-1: api.ErrArg, 0: api.OK, 255: api.OK, 256: api.ErrArg, 1 << 32: api.ErrArg, math.MinInt: api.ErrArg, math.MaxInt: api.ErrArg} {
			l = append(l, edge{fmt.Sprintf("a Cmd with %s %d", field.name, n), func(m *api.Msg) { *field.of(&m.Cmd) = n }, want})
		}
	}
	return append(l,
		edge{"a Cmd with a Key of 16 bytes", func(m *api.Msg) { m.Cmd.Key = key(16) }, api.OK},
		edge{"a Cmd with a Key of 17 bytes", func(m *api.Msg) { m.Cmd.Key = key(17) }, api.ErrLong},
		edge{"a Cmd with a Key of 256 bytes", func(m *api.Msg) { m.Cmd.Key = key(256) }, api.ErrLong})
}

func edges() []edge {
	l := []edge{
		{"a Lo of 16 bytes", func(m *api.Msg) { m.Lo = key(16) }, api.OK},
		{"a Lo of 17 bytes", func(m *api.Msg) { m.Lo = key(17) }, api.ErrLong},
		{"a Lo of 256 bytes", func(m *api.Msg) { m.Lo = key(256) }, api.ErrLong},
		{"a Hi of 16 bytes", func(m *api.Msg) { m.Hi = key(16) }, api.OK},
		{"a Hi of 17 bytes", func(m *api.Msg) { m.Hi = key(17) }, api.ErrLong},
		{"a Hi of 256 bytes", func(m *api.Msg) { m.Hi = key(256) }, api.ErrLong},
		{"4096 Vers", func(m *api.Msg) { m.Vers = make([]api.Ver, 4096) }, api.OK},
		{"4097 Vers", func(m *api.Msg) { m.Vers = make([]api.Ver, 4097) }, api.ErrLong},
		{"65536 Vers", func(m *api.Msg) { m.Vers = make([]api.Ver, 65536) }, api.ErrLong},
		{"no Vers", func(m *api.Msg) { m.Vers = nil }, api.OK},
		{"32 Vec", func(m *api.Msg) { m.Vec = make([]uint64, 32) }, api.OK},
		{"33 Vec", func(m *api.Msg) { m.Vec = make([]uint64, 33) }, api.ErrLong},
		{"256 Vec", func(m *api.Msg) { m.Vec = make([]uint64, 256) }, api.ErrLong},
		{"no Vec", func(m *api.Msg) { m.Vec = nil }, api.OK},
	}
	for at := range len(whole().Vers) {
		l = append(l, verEdges(at)...)
	}
	return append(l, cmdEdges()...)
}

func TestCheckAtItsEdges(t *testing.T) {
	for _, edge := range edges() {
		m := whole()
		edge.change(&m)
		wantWrong(t, edge.what, m, edge.want)
	}
	wantWrong(t, "the fullest message", fullest(), api.OK)
	m := fullest()
	m.Vers[4095].Tx++
	wantWrong(t, "the fullest message, whose last version has a Tx one greater", m, api.ErrArg)
}

// lines are messages' faults in the order in which Check tells them; all of them may be in one message.
func lines() []edge {
	l := []edge{
		{"kind 0", func(m *api.Msg) { m.Kind = 0 }, api.ErrKind},
		{"a long Lo", func(m *api.Msg) { m.Lo = key(17) }, api.ErrLong},
		{"a long Hi", func(m *api.Msg) { m.Hi = key(17) }, api.ErrLong},
		{"too many Vers", func(m *api.Msg) { m.Vers = append(m.Vers, make([]api.Ver, 4097)...) }, api.ErrLong},
	}
	for at := range len(whole().Vers) {
		for _, fault := range []edge{
			{"a long Key", func(m *api.Msg) { m.Vers[at].Key = key(17) }, api.ErrLong},
			{"a long Val", func(m *api.Msg) { m.Vers[at].Val = key(65) }, api.ErrLong},
			{"DC 4", func(m *api.Msg) { m.Vers[at].DC = 4 }, api.ErrArg},
			{"Tx -1", func(m *api.Msg) { m.Vers[at].Tx = -1 }, api.ErrArg},
		} {
			fault.what = fmt.Sprintf("version %d with %s", at, fault.what)
			l = append(l, fault)
		}
	}
	return append(l,
		edge{"too many Vec", func(m *api.Msg) { m.Vec = make([]uint64, 33) }, api.ErrLong},
		edge{"a Cmd with Kind 256", func(m *api.Msg) { m.Cmd.Kind = 256 }, api.ErrArg},
		edge{"a Cmd with DC -1", func(m *api.Msg) { m.Cmd.DC = -1 }, api.ErrArg},
		edge{"a Cmd with Shard 256", func(m *api.Msg) { m.Cmd.Shard = 256 }, api.ErrArg},
		edge{"a Cmd with Node -1", func(m *api.Msg) { m.Cmd.Node = -1 }, api.ErrArg},
		edge{"a Cmd with Mode 256", func(m *api.Msg) { m.Cmd.Mode = 256 }, api.ErrArg},
		edge{"a Cmd with a long Key", func(m *api.Msg) { m.Cmd.Key = key(17) }, api.ErrLong})
}

// of is a message with some of the faults; it tells the error of the first of them.
func of(faults []edge, chosen func(int) bool) (api.Msg, string, api.Errno) {
	m, what, want := clone(whole()), "", api.OK
	for i, fault := range faults {
		if !chosen(i) {
			continue
		}
		fault.change(&m)
		what += fault.what + ", "
		if want == api.OK {
			want = fault.want
		}
	}
	return m, what, want
}

func TestCheckTellsTheFirstOfSeveral(t *testing.T) {
	faults := lines()
	for i := range faults {
		for j := range faults {
			m, what, want := of(faults, func(k int) bool { return k == i || k == j })
			wantWrong(t, what, m, want)
		}
		m, what, want := of(faults, func(k int) bool { return k >= i })
		wantWrong(t, what, m, want)
	}
	n := numbers(5)
	for range 300 {
		m, what, want := of(faults, func(int) bool { return n.below(6) == 0 })
		wantWrong(t, what, m, want)
	}
}

func TestVersionsThatAreNone(t *testing.T) {
	wrong := whole()
	wrong.Kind = 0
	for _, version := range noVersions {
		for _, m := range []api.Msg{whole(), wrong, {}} {
			if b, e := wire.Encode(version, m); len(b) != 0 || e != api.ErrWire {
				t.Errorf("P4.1: Encode(%d) is %x with error %d, not nothing with error %d", version, b, e, api.ErrWire)
			}
		}
		for _, body := range []string{"", "\x00", "\x0c\x01\x05", "\x0c\x01\x00", string(refElder(whole()))} {
			if m, e := wire.Decode(version, []byte(body)); !same(m, api.Msg{}) || e != api.ErrWire {
				t.Errorf("P4.1: Decode(%d, %x) is %v with error %d, not nothing with error %d", version, body, m, e, api.ErrWire)
			}
			for _, to := range slices.Concat(versions, noVersions) {
				if b, e := wire.Turn(version, to, []byte(body)); len(b) != 0 || e != api.ErrWire {
					t.Errorf("P4.1: Turn(%d, %d, %x) is %x with error %d, not nothing with error %d", version, to, body, b, e, api.ErrWire)
				}
			}
		}
	}
}

func TestCheckLeavesItsMessage(t *testing.T) {
	for _, edge := range edges() {
		m := whole()
		edge.change(&m)
		ahead := clone(m)
		wire.Check(m)
		wire.Encode(1, m)
		wire.Encode(2, m)
		if !same(m, ahead) {
			t.Errorf("R3: Check or Encode changed a message with %s", edge.what)
		}
	}
}
