package wire_test

import (
	"math"
	"slices"
	"strings"

	"confluence/api"
)

// numbers is a row of numbers that is the same each time.
type numbers uint64

func (n *numbers) next() uint64 {
	*n = *n*6364136223846793005 + 1442695040888963407
	x := uint64(*n)
	return (x ^ x>>29) * 0x9e3779b97f4a7c15
}

func (n *numbers) below(most int) int { return int(n.next() >> 12 % uint64(most)) }

// ofAnyLength is a number of few bits as often as one of many.
func (n *numbers) ofAnyLength() uint64 { return n.next() >> n.below(64) }

func (n *numbers) text(most int) string {
	b := make([]byte, n.below(most+1))
	for i := range b {
		b[i] = byte(n.next() >> 17)
	}
	return string(b)
}

func (n *numbers) ver() api.Ver {
	return api.Ver{
		Key: n.text(api.MostKey), Val: n.text(api.MostVal), Gone: n.below(2) == 1,
		TS: n.ofAnyLength(), DC: n.below(4), Tx: int(n.next() >> 34 >> n.below(30)),
	}
}

// msg is a message that is right, and has each of its parts as often as not.
func (n *numbers) msg() api.Msg {
	m := api.Msg{Kind: 1 + n.below(26)}
	for _, field := range []*uint64{&m.Id, &m.N, &m.TS} {
		if n.below(2) == 1 {
			*field = n.ofAnyLength()
		}
	}
	for _, field := range []*string{&m.Lo, &m.Hi, &m.Cmd.Key} {
		if n.below(2) == 1 {
			*field = n.text(api.MostKey)
		}
	}
	if n.below(2) == 1 {
		for range n.below(6) {
			m.Vers = append(m.Vers, n.ver())
		}
	}
	if n.below(2) == 1 {
		for range n.below(8) {
			m.Vec = append(m.Vec, n.ofAnyLength())
		}
	}
	if n.below(2) == 1 {
		m.Cmd.Kind, m.Cmd.DC, m.Cmd.Shard, m.Cmd.Node, m.Cmd.Mode = n.below(256), n.below(256), n.below(256), n.below(256), n.below(256)
	}
	return m
}

// versions are those that there are.
var versions = []int{1, 2}

// noVersions are numbers of none.
var noVersions = []int{0, 3, -1, -2, 4, 8, 255, 256, 257, 258, 1 << 32, 1<<32 + 1, 1<<32 + 2, math.MaxInt, math.MinInt, math.MinInt + 1, math.MinInt + 2}

// wholeVer is a version whose fields all have something.
func wholeVer() api.Ver {
	return api.Ver{Key: "key", Val: "value", Gone: true, TS: 300, DC: 2, Tx: 77777}
}

// whole is a message whose fields all have something.
func whole() api.Msg {
	return api.Msg{
		Kind: api.Apply, Id: 1 << 40, N: 129, TS: 5, Lo: "lo", Hi: "hi",
		Vers: []api.Ver{wholeVer(), {TS: 200}, {Key: "k", TS: math.MaxUint64, DC: 3, Tx: api.MostTx}},
		Vec:  []uint64{0, 127, 128, math.MaxUint64},
		Cmd:  api.Cmd{Kind: 6, DC: 3, Shard: 7, Node: 200, Mode: 255, Key: "m"},
	}
}

// fullest is a message that has of each field as much as there may be.
func fullest() api.Msg {
	key := strings.Repeat("\xff", api.MostKey)
	ver := api.Ver{Key: key, Val: strings.Repeat("\x80", api.MostVal), Gone: true, TS: math.MaxUint64, DC: 3, Tx: api.MostTx}
	vers := make([]api.Ver, api.MostVers)
	for i := range vers {
		vers[i] = ver
		// Each is behind the one ahead by the greatest difference.
		vers[i].TS -= uint64(i)
	}
	return api.Msg{
		Kind: api.MostKind, Id: math.MaxUint64, N: math.MaxUint64, TS: math.MaxUint64, Lo: key, Hi: key,
		Vers: vers, Vec: slices.Repeat([]uint64{math.MaxUint64}, api.MostVec),
		Cmd: api.Cmd{Kind: 255, DC: 255, Shard: 255, Node: 255, Mode: 255, Key: key},
	}
}

// widths are numbers of all widths: the powers of two with those next to them.
func widths() []uint64 {
	l := []uint64{0}
	for bit := range 64 {
		power := uint64(1) << bit
		l = append(l, power-1, power, power+1, ^power)
	}
	return append(l, math.MaxUint64)
}

// partsOf is a message that has just those parts whose bits are set.
func partsOf(bits int) api.Msg {
	all, m := whole(), api.Msg{Kind: api.Beat}
	if bits&1 != 0 {
		m.Id = all.Id
	}
	if bits&2 != 0 {
		m.N = all.N
	}
	if bits&4 != 0 {
		m.TS = all.TS
	}
	if bits&8 != 0 {
		m.Lo = all.Lo
	}
	if bits&16 != 0 {
		m.Hi = all.Hi
	}
	if bits&32 != 0 {
		m.Vers = all.Vers
	}
	if bits&64 != 0 {
		m.Vec = all.Vec
	}
	if bits&128 != 0 {
		m.Cmd = all.Cmd
	}
	return m
}

// cmds are commands of which one field alone has something, and nearly nothing.
func cmds() []api.Cmd {
	return []api.Cmd{{Kind: 1}, {DC: 1}, {Shard: 1}, {Node: 1}, {Mode: 1}, {Key: "\x00"},
		{Kind: 255}, {DC: 255}, {Shard: 255}, {Node: 255}, {Mode: 255}, {Key: strings.Repeat("k", api.MostKey)},
		{Kind: 127, DC: 128, Shard: 129, Node: 126, Mode: 254}, {Kind: api.Split, DC: 1, Shard: 2, Key: "m"}}
}

// sample is messages that are right, of all sorts.
func sample() []api.Msg {
	l := []api.Msg{whole(), {Kind: 12, Id: 5}}
	for kind := 1; kind <= api.MostKind; kind++ {
		m := whole()
		m.Kind = kind
		l = append(l, m, api.Msg{Kind: kind})
	}
	for bits := range 256 {
		l = append(l, partsOf(bits))
	}
	for _, n := range widths() {
		l = append(l, api.Msg{Kind: 1, Id: n}, api.Msg{Kind: 2, N: n}, api.Msg{Kind: 3, TS: n},
			api.Msg{Kind: 4, Vers: []api.Ver{{TS: n}}}, api.Msg{Kind: 5, Vec: []uint64{n}},
			api.Msg{Kind: 6, Vers: []api.Ver{{TS: n}, {TS: 1000}, {TS: n}}}, api.Msg{Kind: 7, Vec: []uint64{n, 0, n}})
	}
	for _, c := range cmds() {
		l = append(l, api.Msg{Kind: 8, Cmd: c})
	}
	for _, v := range edgeVers() {
		l = append(l, api.Msg{Kind: 9, Vers: []api.Ver{v}}, api.Msg{Kind: 9, Vers: []api.Ver{wholeVer(), v, wholeVer()}})
	}
	for length := range api.MostKey + 1 {
		key := strings.Repeat("\x80", length)
		l = append(l, api.Msg{Kind: 10, Lo: key}, api.Msg{Kind: 10, Hi: key}, api.Msg{Kind: 10, Cmd: api.Cmd{Key: key}})
	}
	for count := range api.MostVec + 1 {
		l = append(l, api.Msg{Kind: 11, Vec: make([]uint64, count)}, api.Msg{Kind: 11, Vers: make([]api.Ver, 4*count)})
	}
	n := numbers(4)
	for range 400 {
		l = append(l, n.msg())
	}
	return l
}

// edgeVers are versions that are right, at the edges of what they may have.
func edgeVers() []api.Ver {
	return []api.Ver{{}, {Key: "k"}, {Val: "v"}, {Gone: true}, {TS: 1}, {DC: 1}, {DC: 3}, {Tx: 1}, {Tx: 127}, {Tx: 128}, {Tx: 255}, {Tx: 256}, {Tx: 65536},
		{Tx: 1<<24 + 1}, {Tx: api.MostTx - 1}, {Tx: api.MostTx}, {Key: strings.Repeat("k", 16)}, {Val: strings.Repeat("v", 64)}, {Key: "\x00", Val: "\x00\xff"}}
}
