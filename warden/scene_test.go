package warden_test

import (
	"fmt"
	"slices"
	"strings"
	"testing"

	"confluence/api"
	"confluence/config"
	"confluence/warden"
)

func ack(id, at uint64) api.Msg { return api.Msg{Kind: 23, Id: id, TS: at} }
func caught(id uint64) api.Msg  { return api.Msg{Kind: 24, Id: id} }
func drained(id uint64) api.Msg { return api.Msg{Kind: 25, Id: id} }

// wordOf is what the command's datacenter has to say, of an Add or a Remove.
func wordOf(c api.Cmd, id uint64) api.Msg {
	if c.Kind == 1 {
		return caught(id)
	}
	return drained(id)
}

// filled is a message with something in each field that is of no matter to the warden.
func filled(m api.Msg) api.Msg {
	m.N, m.Lo, m.Hi = 3, "lo", "hi"
	m.Vers = []api.Ver{{Key: "k", Val: "v", TS: 9, DC: 1, Tx: 4}}
	m.Vec = []uint64{1, 2, 3}
	m.Cmd = switching(2, 1, 3)
	return m
}

// mail is what goes to a datacenter's gate.
func mail(dc int, m api.Msg) api.Mail { return api.Mail{To: gateOf(dc), Msg: m} }

// says are the 22 numbers of a configuration.
func says(s config.State) []uint64 {
	l := []uint64{0}
	for _, dc := range membersOf(s) {
		l[0] += []uint64{1, 2, 4, 8}[dc]
	}
	for _, mode := range s.Modes {
		l = append(l, uint64(int64(mode)))
	}
	return l
}

// entries are an entry that says a configuration, as it goes to the gates of these datacenters.
func entries(id, n uint64, c api.Cmd, s config.State, dcs ...int) []api.Mail {
	var l []api.Mail
	for _, dc := range dcs {
		l = append(l, mail(dc, api.Msg{Kind: 21, Id: id, N: n, Cmd: c, Vec: says(s)}))
	}
	return l
}

// floor is the mail to a gate that joins.
func floor(dc int, id, at uint64) api.Mail { return mail(dc, api.Msg{Kind: 22, Id: id, TS: at}) }

func sameMail(a, b api.Mail) bool {
	m, o := a.Msg, b.Msg
	return a.To == b.To && m.Kind == o.Kind && m.Id == o.Id && m.N == o.N && m.TS == o.TS && m.Lo == o.Lo && m.Hi == o.Hi && m.Cmd == o.Cmd && slices.Equal(m.Vers, o.Vers) && slices.Equal(m.Vec, o.Vec)
}

// tellMsg tells a message.
func tellMsg(m api.Msg) string {
	text := fmt.Sprintf("kind %d, id %d, n %d, ts %d", m.Kind, m.Id, m.N, m.TS)
	if m.Cmd != (api.Cmd{}) {
		text += ", " + tellCmd(m.Cmd)
	}
	if len(m.Vec) > 0 {
		text += fmt.Sprint(", ", m.Vec)
	}
	if m.Lo+m.Hi != "" || len(m.Vers) > 0 {
		text += fmt.Sprintf(", %.20q %.20q %v", m.Lo, m.Hi, m.Vers)
	}
	return "(" + text + ")"
}

func tellMail(l []api.Mail) string {
	var b strings.Builder
	for _, m := range l {
		fmt.Fprintf(&b, " %d: %s", m.To, tellMsg(m.Msg))
	}
	return "[" + b.String() + " ]"
}

// view is all that is answered of a warden without changing it.
type view struct {
	acked, pending int
	now, tail      config.State
	modes          [21]int
}

func viewOf(w *warden.Warden) view {
	return view{w.Acked(), w.Pending(), w.Now(), w.Tail(), w.Modes()}
}

func (v view) is(other view) bool {
	return v.acked == other.acked && v.pending == other.pending && same(v.now, other.now) && same(v.tail, other.tail) && v.modes == other.modes
}

func (v view) String() string {
	return fmt.Sprintf("acked %d, pending %d, now %s, tail %s, modes %v", v.acked, v.pending, told(v.now), told(v.tail), v.modes)
}

// narrow is the second mode where the first one is Both.
func narrow(a, b int) int {
	return map[bool]int{true: b, false: a}[a == 2]
}

// narrowed are the modes of two configurations, place by place.
func narrowed(now, then config.State) [21]int {
	var l [21]int
	for place := range l {
		l[place] = narrow(now.Modes[place], then.Modes[place])
	}
	return l
}

// scene is a warden, and what was done with it.
type scene struct {
	*testing.T
	w       *warden.Warden
	promise string
	start   string
	done    []string
}

// over is a scene of a warden that was just made.
func over(t *testing.T, s config.State) *scene {
	return &scene{T: t, w: warden.New(s), promise: "P19.1", start: "New(" + told(s) + ")"}
}

// story tells the last ones of the calls.
func (s *scene) story() string {
	return strings.Join(append([]string{s.start}, s.done[max(0, len(s.done)-20):]...), ", ")
}

// wrong tells what is wrong behind the calls.
func (s *scene) wrong(what string, a ...any) {
	s.Helper()
	s.Errorf("%s: behind %s: %s", s.promise, s.story(), fmt.Sprintf(what, a...))
}

func (s *scene) did(what string, a ...any) { s.done = append(s.done, fmt.Sprintf(what, a...)) }

// ask makes an Ask, and wants what it answers.
func (s *scene) ask(c api.Cmd, number int, e api.Errno) {
	s.Helper()
	got, gotE := s.w.Ask(c)
	s.did("Ask(%s)", tellCmd(c))
	if got != number || gotE != e {
		s.wrong("the last answers %d, %d; not %d, %d", got, int(gotE), number, int(e))
	}
}

// asks wants that these commands are taken, from this number on.
func (s *scene) asks(number int, cmds ...api.Cmd) {
	s.Helper()
	for i, c := range cmds {
		s.ask(c, number+i, api.OK)
	}
}

// refuses wants the same error of each of these commands, and that nothing has changed behind it.
func (s *scene) refuses(e api.Errno, cmds ...api.Cmd) {
	s.Helper()
	for _, c := range cmds {
		was := viewOf(s.w)
		s.ask(c, 0, e)
		s.wantView(was)
		s.out()
	}
}

func (s *scene) take(dc int, m api.Msg) {
	s.w.Take(dc, m)
	s.did("Take(%d, %s)", dc, tellMsg(m))
}

// acks hands in an Ack of each of these datacenters.
func (s *scene) acks(id, at uint64, dcs ...int) {
	for _, dc := range dcs {
		s.take(dc, ack(id, at))
	}
}

// wantView wants all that is answered of the warden, also when it is asked again.
func (s *scene) wantView(want view) {
	s.Helper()
	for range 2 {
		if got := viewOf(s.w); !got.is(want) {
			s.wrong("it answers %s; not %s", got, want)
		}
	}
}

// ignores wants of each of these messages that nothing is sent behind it, and that nothing has changed.
func (s *scene) ignores(dc int, l ...api.Msg) {
	s.Helper()
	for _, m := range l {
		was := viewOf(s.w)
		s.take(dc, m)
		s.wantView(was)
		s.out()
	}
}

// out wants the mail that has to go, and that it goes: asked again there is none.
func (s *scene) out(want ...api.Mail) {
	s.Helper()
	got := s.w.Out()
	s.did("Out()")
	if !slices.EqualFunc(got, want, sameMail) {
		s.wrong("Out answers %s; not %s", tellMail(got), tellMail(want))
	}
	if more := s.w.Out(); len(more) > 0 {
		s.wrong("Out, asked again, answers %s", tellMail(more))
	}
}

// idle wants that so many were brought through, that nothing is under way, and what now and tail are.
func (s *scene) idle(acked int, now config.State) {
	s.Helper()
	s.wantView(view{acked, 0, now, now, now.Modes})
}

// busy wants how many were brought through and are in the row, now, what it is behind the command under way, and tail.
func (s *scene) busy(acked, pending int, now, then, tail config.State) {
	s.Helper()
	s.wantView(view{acked, pending, now, tail, narrowed(now, then)})
}

// through brings the one command in the row, over these members, through, as its datacenters ought to, from the epoch of its first entry on.
func (s *scene) through(c api.Cmd, id uint64, members []int, hearers ...int) {
	s.acks(id, 0, members...)
	if isTwofold(c) {
		s.take(c.DC, wordOf(c, id))
		s.acks(id+1, 0, hearers...)
	}
}

// unionOf are the members of one configuration or of the other, rising.
func unionOf(a, b config.State) []int {
	var l []int
	for dc := range 4 {
		if a.Members[dc] || b.Members[dc] {
			l = append(l, dc)
		}
	}
	return l
}
