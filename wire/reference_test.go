package wire_test

import (
	"encoding/binary"
	"slices"

	"confluence/api"
)

// What the chapter says of bodies, written once more and in other ways: the tests hold the program against it.

// refEncode is the body of a message that is right.
func refEncode(version int, m api.Msg) []byte {
	if version == 1 {
		return refElder(m)
	}
	return refNewer(m)
}

func refElder(m api.Msg) []byte {
	b := []byte{byte(m.Kind)}
	for _, n := range []uint64{m.Id, m.N, m.TS} {
		b = binary.BigEndian.AppendUint64(b, n)
	}
	for _, s := range []string{m.Lo, m.Hi} {
		b = append(append(b, byte(len(s))), s...)
	}
	b = binary.BigEndian.AppendUint16(b, uint16(len(m.Vers)))
	for _, v := range m.Vers {
		b = append(append(b, byte(len(v.Key))), v.Key...)
		b = append(append(b, byte(len(v.Val))), v.Val...)
		b = append(b, refGone(v.Gone))
		b = binary.BigEndian.AppendUint64(b, v.TS)
		b = append(b, byte(v.DC))
		b = binary.BigEndian.AppendUint32(b, uint32(v.Tx))
	}
	b = append(b, byte(len(m.Vec)))
	for _, n := range m.Vec {
		b = binary.BigEndian.AppendUint64(b, n)
	}
	b = append(b, byte(m.Cmd.Kind), byte(m.Cmd.DC), byte(m.Cmd.Shard), byte(m.Cmd.Node), byte(m.Cmd.Mode))
	return append(append(b, byte(len(m.Cmd.Key))), m.Cmd.Key...)
}

func refNewer(m api.Msg) []byte {
	b := []byte{byte(m.Kind), 0}
	set := func(bit int) { b[1] |= 1 << bit }
	short := func(n uint64) { b = binary.AppendUvarint(b, n) }
	text := func(s string) { short(uint64(len(s))); b = append(b, s...) }
	for bit, n := range []uint64{m.Id, m.N, m.TS} {
		if n > 0 {
			set(bit)
			short(n)
		}
	}
	for i, s := range []string{m.Lo, m.Hi} {
		if len(s) > 0 {
			set(3 + i)
			text(s)
		}
	}
	if len(m.Vers) > 0 {
		set(5)
		short(uint64(len(m.Vers)))
		for i, v := range m.Vers {
			text(v.Key)
			text(v.Val)
			b = append(b, refGone(v.Gone))
			if i == 0 {
				short(v.TS)
			} else {
				short(v.TS - m.Vers[i-1].TS)
			}
			short(uint64(v.DC))
			short(uint64(v.Tx))
		}
	}
	if len(m.Vec) > 0 {
		set(6)
		short(uint64(len(m.Vec)))
		for _, n := range m.Vec {
			short(n)
		}
	}
	c := m.Cmd
	if c.Kind != 0 || c.DC != 0 || c.Shard != 0 || c.Node != 0 || c.Mode != 0 || c.Key != "" {
		set(7)
		for _, n := range []int{c.Kind, c.DC, c.Shard, c.Node, c.Mode} {
			short(uint64(n))
		}
		text(c.Key)
	}
	return b
}

func refGone(gone bool) byte {
	if gone {
		return 1
	}
	return 0
}

// refReader goes through a body; behind its first error it reads zeros and changes that error no more.
type refReader struct {
	b       []byte
	at      int
	e       api.Errno
	version int
}

func (r *refReader) fail(e api.Errno) {
	if r.e == api.OK {
		r.e = e
	}
}

func (r *refReader) byte() uint64 {
	if r.e == api.OK && r.at >= len(r.b) {
		r.fail(api.ErrShort)
	}
	if r.e != api.OK {
		return 0
	}
	r.at++
	return uint64(r.b[r.at-1])
}

func (r *refReader) wide(width int) uint64 {
	n := uint64(0)
	for range width {
		n = n*256 + r.byte()
	}
	return n
}

func (r *refReader) short() uint64 {
	n := uint64(0)
	for place := 0; r.e == api.OK; place++ {
		c := r.byte()
		if r.e == api.OK && (place > 0 && c == 0 || place == 9 && c > 1) {
			r.fail(api.ErrForm)
		}
		n += c % 128 << (7 * place)
		if c < 128 {
			break
		}
	}
	return n
}

// number is one by the body's version: version 1 has it in so many bytes.
func (r *refReader) number(width int) uint64 {
	if r.version == 1 {
		return r.wide(width)
	}
	return r.short()
}

func (r *refReader) below(n, limit uint64, e api.Errno) uint64 {
	if r.e == api.OK && n >= limit {
		r.fail(e)
	}
	if r.e != api.OK {
		return 0
	}
	return n
}

func (r *refReader) text(most uint64) string {
	count := int(r.below(r.number(1), most+1, api.ErrLong))
	if r.e == api.OK && len(r.b)-r.at < count {
		r.fail(api.ErrShort)
	}
	if r.e != api.OK {
		return ""
	}
	r.at += count
	return string(r.b[r.at-count : r.at])
}

// part is whether a part is to be read; full holds it to its bit then.
func (r *refReader) part(has uint64, bit int) bool {
	return r.version == 1 || has>>bit&1 == 1
}

func (r *refReader) full(is bool) {
	if r.version == 2 && !is {
		r.fail(api.ErrForm)
	}
}

func refDecode(version int, body []byte) (api.Msg, api.Errno) {
	r := &refReader{b: body, version: version}
	m := r.msg()
	if r.at < len(body) {
		r.fail(api.ErrForm)
	}
	if r.e != api.OK {
		return api.Msg{}, r.e
	}
	return m, api.OK
}

func (r *refReader) msg() (m api.Msg) {
	m.Kind = int(r.byte())
	if m.Kind == 0 || m.Kind > 26 {
		r.fail(api.ErrKind)
	}
	has := uint64(0)
	if r.version == 2 {
		has = r.byte()
	}
	for bit, field := range []*uint64{&m.Id, &m.N, &m.TS} {
		if r.part(has, bit) {
			*field = r.number(8)
			r.full(*field > 0)
		}
	}
	for i, field := range []*string{&m.Lo, &m.Hi} {
		if r.part(has, 3+i) {
			*field = r.text(16)
			r.full(len(*field) > 0)
		}
	}
	if r.part(has, 5) {
		r.vers(&m)
	}
	if r.part(has, 6) {
		count := r.below(r.number(1), 33, api.ErrLong)
		r.full(count > 0)
		for ; count > 0 && r.e == api.OK; count-- {
			m.Vec = append(m.Vec, r.number(8))
		}
	}
	if r.part(has, 7) {
		for _, field := range []*int{&m.Cmd.Kind, &m.Cmd.DC, &m.Cmd.Shard, &m.Cmd.Node, &m.Cmd.Mode} {
			*field = int(r.below(r.number(1), 256, api.ErrArg))
		}
		m.Cmd.Key = r.text(16)
		r.full(m.Cmd != api.Cmd{})
	}
	return m
}

func (r *refReader) vers(m *api.Msg) {
	count := r.below(r.number(2), 4097, api.ErrLong)
	r.full(count > 0)
	sum := uint64(0)
	for ; count > 0 && r.e == api.OK; count-- {
		var v api.Ver
		v.Key, v.Val = r.text(16), r.text(64)
		v.Gone = r.below(r.byte(), 2, api.ErrForm) == 1
		v.TS = r.number(8)
		if r.version == 2 {
			sum += v.TS
			v.TS = sum
		}
		v.DC = int(r.below(r.number(1), 4, api.ErrArg))
		v.Tx = int(r.below(r.number(4), 1<<30+1, api.ErrArg))
		m.Vers = append(m.Vers, v)
	}
}

// same tells whether two messages are one; a list of nothing may be nil or empty.
func same(a, b api.Msg) bool {
	return a.Kind == b.Kind && a.Id == b.Id && a.N == b.N && a.TS == b.TS && a.Lo == b.Lo && a.Hi == b.Hi &&
		slices.Equal(a.Vers, b.Vers) && slices.Equal(a.Vec, b.Vec) && a.Cmd == b.Cmd
}

// clone shares no list with its message.
func clone(m api.Msg) api.Msg {
	m.Vers = slices.Clone(m.Vers)
	m.Vec = slices.Clone(m.Vec)
	return m
}
