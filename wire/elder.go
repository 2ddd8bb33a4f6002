package wire

import (
	"confluence/api"
)

// How many bytes version 1 has for each of its numbers.
const (
	wideNumber = 8
	wideByte   = 1
	wideVers   = 2
	wideTx     = 4
)

// writeElder is the body by version 1 of a message that is right.
func writeElder(m api.Msg) []byte {
	parts := [][]byte{
		wide(uint64(m.Kind), wideByte),
		wide(m.Id, wideNumber), wide(m.N, wideNumber), wide(m.TS, wideNumber),
		elderText(m.Lo), elderText(m.Hi),
		wide(uint64(len(m.Vers)), wideVers),
	}
	for _, v := range m.Vers {
		parts = append(parts, elderVer(v))
	}
	parts = append(parts, wide(uint64(len(m.Vec)), wideByte))
	for _, n := range m.Vec {
		parts = append(parts, wide(n, wideNumber))
	}
	for _, n := range numbersOf(m.Cmd) {
		parts = append(parts, wide(uint64(n), wideByte))
	}
	return joined(append(parts, elderText(m.Cmd.Key))...)
}

func elderVer(v api.Ver) []byte {
	return joined(elderText(v.Key), elderText(v.Val), goneByte(v.Gone),
		wide(v.TS, wideNumber), wide(uint64(v.DC), wideByte), wide(uint64(v.Tx), wideTx))
}

func elderText(s string) []byte { return joined(wide(uint64(len(s)), wideByte), []byte(s)) }

// readElder reads a message by version 1.
func readElder(u *unread) api.Msg {
	m := api.Msg{Kind: u.kind()}
	m.Id = u.wide(wideNumber)
	m.N = u.wide(wideNumber)
	m.TS = u.wide(wideNumber)
	m.Lo = u.elderText(api.MostKey)
	m.Hi = u.elderText(api.MostKey)
	for range atMost(u.wide(wideVers), api.MostVers, api.ErrLong) {
		m.Vers = append(m.Vers, u.elderVer())
	}
	for range atMost(u.wide(wideByte), api.MostVec, api.ErrLong) {
		m.Vec = append(m.Vec, u.wide(wideNumber))
	}
	m.Cmd = u.elderCmd()
	return m
}

func (u *unread) elderVer() api.Ver {
	var v api.Ver
	v.Key = u.elderText(api.MostKey)
	v.Val = u.elderText(api.MostVal)
	v.Gone = u.gone()
	v.TS = u.wide(wideNumber)
	v.DC = atMost(u.wide(wideByte), api.MostDC-1, api.ErrArg)
	v.Tx = atMost(u.wide(wideTx), api.MostTx, api.ErrArg)
	return v
}

func (u *unread) elderCmd() api.Cmd {
	var c api.Cmd
	c.Kind = int(u.wide(wideByte))
	c.DC = int(u.wide(wideByte))
	c.Shard = int(u.wide(wideByte))
	c.Node = int(u.wide(wideByte))
	c.Mode = int(u.wide(wideByte))
	c.Key = u.elderText(api.MostKey)
	return c
}

func (u *unread) elderText(most int) string {
	return string(u.bytes(atMost(u.wide(wideByte), most, api.ErrLong)))
}
