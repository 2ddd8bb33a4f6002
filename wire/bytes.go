package wire

import (
	"confluence/api"
	"confluence/num"
)

// joined is parts put behind one another.
func joined(parts ...[]byte) []byte {
	var b []byte
	for _, part := range parts {
		b = append(b, part...)
	}
	return b
}

// wide is a number of a fixed count of bytes; a message that is right has none that needs more.
func wide(n uint64, width int) []byte {
	b, _ := num.Fixed(n, width)
	return b
}

// newerText is a text as layer 3 writes it: whether it may be so long, Check has told.
func newerText(s string) []byte {
	b, _ := num.Text(s, len(s))
	return b
}

func goneByte(gone bool) []byte {
	if gone {
		return []byte{1}
	}
	return []byte{0}
}

// noMessage is thrown where a body turns out to be none: what is read goes into many small parts, and none of them can go on.
type noMessage struct {
	why api.Errno
}

func refuseIf(wrong bool, why api.Errno) {
	if wrong {
		panic(noMessage{why})
	}
}

// readBy reads a whole body as one message.
func readBy(read func(*unread) api.Msg, body []byte) (m api.Msg, e api.Errno) {
	defer func() {
		switch thrown := recover().(type) {
		case nil:
		case noMessage:
			m, e = api.Msg{}, thrown.why
		default:
			// A fault of the program, not of the body: it isn't to pass for an answer.
			panic(thrown)
		}
	}()
	u := &unread{body}
	m = read(u)
	refuseIf(len(u.rest) > 0, api.ErrForm)
	return m, api.OK
}

// unread is what is left of a body.
type unread struct {
	rest []byte
}

func (u *unread) bytes(count int) []byte {
	refuseIf(count > len(u.rest), api.ErrShort)
	taken := u.rest[:count]
	u.rest = u.rest[count:]
	return taken
}

func (u *unread) wide(width int) uint64 {
	n, e := num.TakeFixed(u.rest, width)
	refuseIf(e != api.OK, e)
	u.bytes(width)
	return n
}

func (u *unread) short() uint64 {
	n, size, e := num.TakeUvar(u.rest)
	refuseIf(e != api.OK, e)
	u.bytes(size)
	return n
}

func (u *unread) newerText(most int) string {
	s, size, e := num.TakeText(u.rest, most)
	refuseIf(e != api.OK, e)
	u.bytes(size)
	return s
}

func (u *unread) kind() int {
	kind := u.wide(wideByte)
	refuseIf(kind < 1 || kind > api.MostKind, api.ErrKind)
	return int(kind)
}

func (u *unread) gone() bool {
	return atMost(u.wide(wideByte), 1, api.ErrForm) == 1
}

// atMost is a number that was read, if it keeps to its limit.
func atMost(n uint64, most int, why api.Errno) int {
	refuseIf(n > uint64(most), why)
	return int(n)
}
