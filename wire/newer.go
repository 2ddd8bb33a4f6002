package wire

import (
	"confluence/api"
	"confluence/num"
)

// The bits by which version 2 tells which parts follow.
const (
	hasId = 1 << iota
	hasN
	hasTS
	hasLo
	hasHi
	hasVers
	hasVec
	hasCmd
)

// writeNewer is the body by version 2 of a message that is right.
func writeNewer(m api.Msg) []byte {
	parts := [...][]byte{
		shortUnlessNought(m.Id), shortUnlessNought(m.N), shortUnlessNought(m.TS),
		textUnlessEmpty(m.Lo), textUnlessEmpty(m.Hi),
		newerVers(m.Vers), newerVec(m.Vec), newerCmd(m.Cmd),
	}
	has := byte(0)
	for i, part := range parts {
		if len(part) > 0 {
			has |= 1 << i
		}
	}
	return joined([]byte{byte(m.Kind), has}, joined(parts[:]...))
}

func shortUnlessNought(n uint64) []byte {
	if n == 0 {
		return nil
	}
	return num.Uvar(n)
}

func textUnlessEmpty(s string) []byte {
	if s == "" {
		return nil
	}
	return newerText(s)
}

func newerVers(vers []api.Ver) []byte {
	if len(vers) == 0 {
		return nil
	}
	parts := [][]byte{num.Uvar(uint64(len(vers)))}
	ahead := uint64(0)
	for _, v := range vers {
		parts = append(parts, newerVer(v, ahead))
		ahead = v.TS
	}
	return joined(parts...)
}

// newerVer is a version's bytes, behind one whose TS is ahead.
func newerVer(v api.Ver, ahead uint64) []byte {
	return joined(newerText(v.Key), newerText(v.Val), goneByte(v.Gone),
		num.Uvar(v.TS-ahead), num.Uvar(uint64(v.DC)), num.Uvar(uint64(v.Tx)))
}

func newerVec(vec []uint64) []byte {
	if len(vec) == 0 {
		return nil
	}
	parts := [][]byte{num.Uvar(uint64(len(vec)))}
	for _, n := range vec {
		parts = append(parts, num.Uvar(n))
	}
	return joined(parts...)
}

func newerCmd(c api.Cmd) []byte {
	if c == (api.Cmd{}) {
		return nil
	}
	var parts [][]byte
	for _, n := range numbersOf(c) {
		parts = append(parts, num.Uvar(uint64(n)))
	}
	return joined(append(parts, newerText(c.Key))...)
}

// readNewer reads a message by version 2.
func readNewer(u *unread) api.Msg {
	m := api.Msg{Kind: u.kind()}
	has := u.wide(wideByte)
	if has&hasId != 0 {
		m.Id = u.shortNotNought()
	}
	if has&hasN != 0 {
		m.N = u.shortNotNought()
	}
	if has&hasTS != 0 {
		m.TS = u.shortNotNought()
	}
	if has&hasLo != 0 {
		m.Lo = u.textNotEmpty()
	}
	if has&hasHi != 0 {
		m.Hi = u.textNotEmpty()
	}
	if has&hasVers != 0 {
		m.Vers = u.newerVers()
	}
	if has&hasVec != 0 {
		m.Vec = u.newerVec()
	}
	if has&hasCmd != 0 {
		m.Cmd = u.newerCmd()
	}
	return m
}

func (u *unread) shortNotNought() uint64 {
	n := u.short()
	refuseIf(n == 0, api.ErrForm)
	return n
}

func (u *unread) textNotEmpty() string {
	s := u.newerText(api.MostKey)
	refuseIf(s == "", api.ErrForm)
	return s
}

// countNotNought is how many things follow in a list that stands there since it isn't empty.
func (u *unread) countNotNought(most int) int {
	count := atMost(u.short(), most, api.ErrLong)
	refuseIf(count == 0, api.ErrForm)
	return count
}

func (u *unread) newerVers() []api.Ver {
	var vers []api.Ver
	ahead := uint64(0)
	for range u.countNotNought(api.MostVers) {
		v := u.newerVer(ahead)
		vers = append(vers, v)
		ahead = v.TS
	}
	return vers
}

func (u *unread) newerVer(ahead uint64) api.Ver {
	var v api.Ver
	v.Key = u.newerText(api.MostKey)
	v.Val = u.newerText(api.MostVal)
	v.Gone = u.gone()
	v.TS = ahead + u.short()
	v.DC = atMost(u.short(), api.MostDC-1, api.ErrArg)
	v.Tx = atMost(u.short(), api.MostTx, api.ErrArg)
	return v
}

func (u *unread) newerVec() []uint64 {
	var vec []uint64
	for range u.countNotNought(api.MostVec) {
		vec = append(vec, u.short())
	}
	return vec
}

func (u *unread) newerCmd() api.Cmd {
	var c api.Cmd
	c.Kind = u.cmdNumber()
	c.DC = u.cmdNumber()
	c.Shard = u.cmdNumber()
	c.Node = u.cmdNumber()
	c.Mode = u.cmdNumber()
	c.Key = u.newerText(api.MostKey)
	refuseIf(c == api.Cmd{}, api.ErrForm)
	return c
}

func (u *unread) cmdNumber() int { return atMost(u.short(), mostOfCmd, api.ErrArg) }
