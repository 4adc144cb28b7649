package amqp_test

import (
	"encoding/binary"
	"fmt"
	"math/rand"
	"slices"
	"strings"
	"testing"

	"trivet/aframe"
	"trivet/api"
	"trivet/table"
)

// The chapter once more, told by other means: each part answers what comes of a copy of the state, a code among it, and nothing gives up.

// comes is what comes of something: the state behind it, the acts, and the code with which the connection or the channel ends, if one does.
type comes struct {
	s     api.Amqp
	acts  []api.Act
	conn  int
	chan1 int
}

// twinNext: what Next answers.
func twinNext(s api.Amqp) step {
	s = remade(s)
	if s.Stage == stDown {
		s.Rest = ""
		return step{s: s}
	}
	if s.Stage == stHeader {
		return twinGreet(s)
	}
	f, size, err := aframe.Next(s.Rest)
	if err == 41 {
		return step{s: s}
	}
	s.Rest = s.Rest[size:]
	c := comes{s: s, conn: 501}
	if err == ok {
		c = twinFrame(s, f)
	}
	return twinEnd(s, c)
}

func twinGreet(s api.Amqp) step {
	n := 0
	for n < min(8, len(s.Rest)) && s.Rest[n] == greeting[n] {
		n++
	}
	switch {
	case n == 8:
		s.Rest, s.Stage = s.Rest[8:], stStart
		return step{s, []api.Act{say(started)}, true}
	case n == len(s.Rest):
		return step{s: s}
	}
	return step{downed(s), []api.Act{say(greeting), end()}, true}
}

// twinEnd: what is left of it when a code ended something: of the state ahead of the frame.
func twinEnd(s api.Amqp, c comes) step {
	switch {
	case c.conn != 0:
		return step{downed(s), []api.Act{say(meth(0, "connection.close", c.conn)), end()}, true}
	case c.chan1 != 0:
		return step{shut(s), []api.Act{say(on1("channel.close", c.chan1)), detach(me)}, true}
	}
	return step{c.s, c.acts, true}
}

func twinFrame(s api.Amqp, f api.Frame) comes {
	switch f.Type {
	case 8:
		if f.Channel != 0 {
			return comes{conn: 501}
		}
		return comes{s: s}
	case 1:
		m, err := table.Decode(f.Payload)
		name := ""
		for _, k := range kinds() {
			if k.class == m.Class && k.id == m.Id {
				name = k.name
			}
		}
		switch {
		case err != ok:
			return comes{conn: 502}
		case s.Want != -1:
			return comes{conn: 505}
		case f.Channel == 0:
			return twinOn0(s, name)
		case s.Stage != stUp || f.Channel != 1:
			return comes{conn: 504}
		case !s.Channel && name == "channel.close-ok":
			return comes{s: s}
		case !s.Channel && name != "channel.open":
			return comes{conn: 504}
		case !s.Channel:
			s.Channel = true
			return comes{s: s, acts: []api.Act{say(on1("channel.open-ok"))}}
		}
		return twinOn1(s, name, m)
	}
	if f.Channel != 1 || !s.Channel || s.Want == -1 {
		return comes{conn: 505}
	}
	return twinContent(s, f)
}

func twinOn0(s api.Amqp, name string) comes {
	switch fmt.Sprint(s.Stage, " ", name) {
	case "1 connection.start-ok":
		s.Stage = 2
		return comes{s: s, acts: []api.Act{say(meth(0, "connection.tune", 1, 16384, 0))}}
	case "2 connection.tune-ok":
		s.Stage = 3
		return comes{s: s}
	case "3 connection.open":
		s.Stage = 4
		return comes{s: s, acts: []api.Act{say(meth(0, "connection.open-ok"))}}
	}
	if name == "connection.close" {
		return comes{s: downed(s), acts: []api.Act{say(meth(0, "connection.close-ok")), end()}}
	}
	return comes{conn: 503}
}

// twinBits: of each method that may be refused by 540 the bits that it takes.
var twinBits = map[string]int{"queue.declare": 6, "queue.bind": 0, "basic.consume": 2, "basic.publish": 0, "basic.get": 1, "basic.nack": 254}

func twinOn1(s api.Amqp, name string, m api.Method) comes {
	bits := 0
	if len(m.Nums) > 1 {
		bits = m.Nums[1]
	}
	if takes, there := twinBits[name]; there && (bits|takes != takes || len(m.Props) > 0) {
		return comes{chan1: 540}
	}
	shutting := func(code int) comes { return comes{chan1: code} }
	saying := func(name string) comes { return comes{s: s, acts: []api.Act{say(on1(name))}} }
	doing := func(ref int, text string, o api.Op) comes {
		return comes{s: s, acts: []api.Act{do(ref, text, o)}}
	}
	x := m.Texts
	switch name {
	case "channel.close":
		return comes{s: shut(s), acts: []api.Act{say(on1("channel.close-ok")), detach(me)}}
	case "queue.declare":
		return doing(refDeclare, x[0], api.Op{Kind: opDeclare, Queue: x[0], Durable: bits/2%2 == 1, Auto: bits/4%2 == 1, N: 64})
	case "queue.bind":
		if x[1] != "amq.topic" {
			return shutting(404)
		}
		return doing(refBind, "", api.Op{Kind: opBind, Queue: x[0], Text: x[2]})
	case "basic.qos":
		if s.Window = bits; bits < 1 || bits > 32 {
			s.Window = 32
		}
		return saying("basic.qos-ok")
	case "basic.consume":
		return twinConsume(s, x[0], x[1], bits == 2)
	case "basic.publish":
		return twinPublish(s, x[0], x[1])
	case "basic.get":
		return doing(refGet, "", api.Op{Kind: opGet, Conn: me, Queue: x[0], Auto: bits == 1})
	case "basic.ack":
		return twinAck(s, m.Nums[0], bits%2 == 1)
	case "basic.reject":
		return twinSettle(s, []int{m.Nums[0]}, true, api.Op{Kind: opNack, Conn: me, Auto: bits%2 == 1})
	case "basic.nack":
		return twinSettle(s, []int{m.Nums[0]}, true, api.Op{Kind: opNack, Conn: me, Auto: bits/2%2 == 1})
	case "confirm.select":
		if s.Tx {
			return shutting(406)
		}
		s.Confirm = true
		return saying("confirm.select-ok")
	case "tx.select":
		if s.Confirm {
			return shutting(406)
		}
		s.Tx = true
		return saying("tx.select-ok")
	case "tx.commit", "tx.rollback":
		return twinTx(s, name)
	}
	return comes{conn: 503}
}

func twinConsume(s api.Amqp, queue, tag string, auto bool) comes {
	if tag == "" {
		tag = fmt.Sprintf("c%d", s.Count+1)
	}
	for _, n := range s.Subs {
		if n.Name == tag {
			return comes{chan1: 530}
		}
	}
	after, act := subscribed(s, queue, tag, auto)
	return comes{s: after, acts: []api.Act{act}}
}

func twinPublish(s api.Amqp, place, key string) comes {
	name := len(key) >= 1 && len(key) <= 16 && strings.Trim(key, "abcdefghijklmnopqrstuvwxyz0123456789-_") == ""
	switch {
	case place == "amq.topic":
		return comes{s: due(s, "", key)}
	case place == "" && name:
		return comes{s: due(s, key, key)}
	}
	return comes{chan1: 404}
}

func twinAck(s api.Amqp, num int, all bool) comes {
	nums := []int{num}
	if all {
		nums = nil
		for _, g := range s.Given {
			if num == 0 || g.Num <= num {
				nums = append(nums, g.Num)
			}
		}
	}
	return twinSettle(s, nums, num != 0 || !all, api.Op{Kind: opAck, Conn: me})
}

// twinSettle: what was given by these numbers is settled; there must be such, or not.
func twinSettle(s api.Amqp, nums []int, must bool, like api.Op) comes {
	after := remade(s)
	after.Given = nil
	var ops []api.Op
	for _, g := range s.Given {
		if slices.Contains(nums, g.Num) && !g.Mark {
			like.Queue, like.N = g.Queue, g.Tag
			ops = append(ops, like)
			if !s.Tx {
				continue
			}
			g.Mark = true
		}
		after.Given = append(after.Given, g)
	}
	if must && len(ops) == 0 {
		return comes{chan1: 406}
	}
	c := comes{s: after}
	if s.Tx {
		c.s.Ops = append(c.s.Ops, ops...)
		if len(c.s.Ops) > 16 {
			return comes{chan1: 506}
		}
		return c
	}
	for at := 0; at < len(ops); at += 16 {
		c.acts = append(c.acts, do(0, "", ops[at:min(at+16, len(ops))]...))
	}
	return c
}

func twinTx(s api.Amqp, name string) comes {
	if !s.Tx {
		return comes{chan1: 406}
	}
	acts := []api.Act{say(on1(name + "-ok"))}
	commit := name == "tx.commit"
	if commit && len(s.Ops) > 0 {
		acts = []api.Act{do(refCommit, "", s.Ops...)}
	}
	var left []api.Given
	for _, g := range s.Given {
		if !g.Mark || !commit {
			g.Mark = false
			left = append(left, g)
		}
	}
	s.Ops, s.Given = nil, left
	return comes{s: s, acts: acts}
}

func twinContent(s api.Amqp, f api.Frame) comes {
	if f.Type != 2+s.Want {
		return comes{conn: 505}
	}
	if s.Want == 0 {
		size, list, durable, err := aframe.ReadHead(f.Payload)
		switch err {
		case ok:
			s = headed(s, size, list, durable)
		case errLong:
			return comes{conn: 501}
		default:
			return comes{conn: 502}
		}
	} else {
		s.Pub.Msg.Body += f.Payload
	}
	switch left := s.Size - len(s.Pub.Msg.Body); {
	case left < 0:
		return comes{conn: 505}
	case left > 0:
		return comes{s: s}
	}
	after, act := published(s, s.Pub)
	if !s.Tx {
		return comes{s: after, acts: []api.Act{act}}
	}
	if len(s.Ops) >= 16 {
		return comes{chan1: 506}
	}
	after.Ops = append(after.Ops, s.Pub)
	return comes{s: after}
}

// twinTold: what Told answers.
func twinTold(s api.Amqp, a api.Act, e api.Errno) tells {
	s = remade(s)
	if !s.Channel || s.Stage == stDown {
		return tells{s: s}
	}
	seq := 0
	fmt.Sscan(a.Text, &seq)
	saying := func(name string, parts ...any) tells { return tells{s, []api.Act{say(on1(name, parts...))}} }
	switch {
	case a.Ref == refGet && e == errNone:
		return saying("basic.get-empty")
	case a.Ref == refPublish && s.Confirm && e == ok:
		return saying("basic.ack", seq)
	case a.Ref == refPublish && s.Confirm && (e == errDeep || e == errFull):
		return saying("basic.nack", seq)
	case e != ok:
		return tells{shut(s), []api.Act{say(on1("channel.close", codeOf(e))), detach(me)}}
	}
	switch a.Ref {
	case refDeclare:
		if a.Ops[0].Auto && !slices.Contains(s.Own, a.Text) {
			s.Own = append(s.Own, a.Text)
		}
		return saying("queue.declare-ok", a.Text)
	case refBind:
		return saying("queue.bind-ok")
	case refConsume:
		return saying("basic.consume-ok", a.Text)
	case refCommit:
		return saying("tx.commit-ok")
	}
	return tells{s: s}
}

// twinGive: what Give answers.
func twinGive(s api.Amqp, o api.Out) gives {
	s = remade(s)
	at := slices.IndexFunc(s.Subs, func(n api.Named) bool { return n.Sub == o.Sub })
	if s.Stage != stUp || !s.Channel || at < 0 && o.Sub != 0 {
		return gives{s: s}
	}
	again := 0
	if o.Again {
		again = 1
	}
	after := given(s, o)
	if o.Sub == 0 {
		return gives{after, on1("basic.get-ok", after.Num, again, "amq.topic", o.Msg.Topic, 0) + contentOf(o.Msg)}
	}
	return gives{after, on1("basic.deliver", s.Subs[at].Name, after.Num, again, "amq.topic", o.Msg.Topic) + contentOf(o.Msg)}
}

// one: one of a list.
func one[T any](r *rand.Rand, list ...T) T {
	return list[r.Intn(len(list))]
}

// someNum: a number that something was given by, most often.
func someNum(r *rand.Rand, s api.Amqp) int {
	if len(s.Given) > 0 && r.Intn(8) > 0 {
		return s.Given[r.Intn(len(s.Given))].Num
	}
	return one(r, 0, 1, s.Num, s.Num+1, r.Intn(s.Num+1), 1<<40)
}

// someBits: bits that a method takes, most often.
func someBits(r *rand.Rand, list ...int) int {
	if r.Intn(40) == 0 {
		return r.Intn(256)
	}
	return one(r, list...)
}

// someList: properties, none most often.
func someList(r *rand.Rand) []api.Prop {
	if r.Intn(60) == 0 {
		return one(r, oneProp(), allProps())
	}
	return nil
}

// moods: what rows have most of: everything; one long transaction; much that is given and seldom settled.
var moods = [][]int{
	{0, 1, 2, 3, 4, 5, 6, 7, 8, 9, 10, 11, 12, 13, 14, 15, 16, 17, 18, 19, 20, 21, 22, 23},
	{6, 8, 9, 10, 11, 12, 14, 17, 20, 20},
	{6, 7, 7, 13, 23, 23, 23, 23, 23, 24},
}

// someMethod: a frame with a method on channel 1, most often one that is heard.
func someMethod(r *rand.Rand, s api.Amqp, mood int) string {
	name := one(r, "a", "b", "q", "q", "c1", "c2", "c7", strings.Repeat("n", 16))
	tag := one(r, "", "", "", "a", "z", "c3", "c9")
	switch one(r, moods[mood]...) {
	case 0:
		return on1("channel.open")
	case 1:
		return one(r, on1("channel.close"), on1("channel.close-ok"))
	case 2, 3:
		return on1("queue.declare", r.Intn(2), name, someBits(r, 0, 2, 4, 6), someList(r))
	case 4:
		return on1("queue.bind", 0, name, one(r, "amq.topic", "amq.topic", "amq.topic", "amq.topics"), one(r, "a.*", "#", "no pattern"), someBits(r, 0), someList(r))
	case 5:
		return on1("basic.qos", 0, one(r, 0, 1, 5, 32, 33, 65535), r.Intn(256))
	case 6, 7:
		return on1("basic.consume", 0, name, tag, someBits(r, 0, 2), someList(r))
	case 8, 9, 10, 11, 12:
		return on1("basic.publish", 0, one(r, "", "amq.topic", "amq.topic"), one(r, name, name, name, "a.b"), someBits(r, 0))
	case 13:
		return on1("basic.get", 0, name, someBits(r, 0, 1))
	case 14, 15, 16:
		return on1("basic.ack", someNum(r, s), someBits(r, 0, 0, 1))
	case 17:
		return on1("basic.reject", someNum(r, s), r.Intn(4))
	case 18:
		return on1("basic.nack", someNum(r, s), someBits(r, 0, 2, 4, 6))
	case 19:
		return one(r, on1("confirm.select", r.Intn(2)), on1("tx.select"))
	case 20:
		return on1("tx.select")
	case 21:
		return on1("tx.commit")
	case 22:
		return on1("tx.rollback")
	case 24:
		return on1("basic.ack", 0, 1)
	}
	if r.Intn(6) > 0 {
		return frame(8, 0, "")
	}
	return meth(one(r, 0, 1, 1, 2), one(r, kinds()...).name)
}

// someContent: a frame of a content that is due.
func someContent(r *rand.Rand, s api.Amqp) string {
	switch {
	case r.Intn(60) == 0:
		return frame(one(r, 2, 3), one(r, 0, 1, 2), one(r, "", head(1025, nil, true), head(0, oneProp(), true), "x"))
	case r.Intn(30) == 0:
		return frame(8, 0, "")
	case s.Want == 0:
		return frame(2, 1, head(one(r, 0, 1, 2, 5, 1024), one(r, nil, oneProp(), allProps()), r.Intn(2) == 0))
	}
	left := s.Size - len(s.Pub.Msg.Body)
	return frame(3, 1, strings.Repeat("x", one(r, left, left, left, r.Intn(left+1), 0)))
}

// someFrame: what may come next, most often something that is heard.
func someFrame(r *rand.Rand, s api.Amqp, mood int) string {
	in := someMethod(r, s, mood)
	switch {
	case s.Stage == stHeader:
		in = greeting
	case s.Stage < stUp:
		in = meth(0, []string{"connection.start-ok", "connection.tune-ok", "connection.open"}[s.Stage-1])
	case s.Want >= 0:
		in = someContent(r, s)
	case !s.Channel && r.Intn(20) > 0:
		in = on1("channel.open")
	}
	if r.Intn(400) == 0 {
		return meth(one(r, 0, 0, 0, 1, 2), one(r, kinds()...).name)
	}
	if r.Intn(400) == 0 {
		b := []byte(in)
		b[r.Intn(len(b))] ^= 1 << r.Intn(8)
		return string(b)
	}
	return in
}

// someOut: what may be handed out, most often to somebody.
func someOut(r *rand.Rand, s api.Amqp) api.Out {
	o := api.Out{Conn: me, Sub: r.Intn(s.Count + 2), Tag: one(r, 0, 1+r.Intn(99), 1+r.Intn(99)), Queue: one(r, "a", "q"), Again: r.Intn(2) == 0, Msg: one(r, messages()...)}
	if len(s.Subs) > 0 && r.Intn(4) > 0 {
		o.Sub = one(r, s.Subs...).Sub
	}
	return o
}

func TestP17_1_AgainstATwin(t *testing.T) {
	t.Parallel()
	count := make(map[string]int)
	for seed := range 1500 {
		r := rand.New(rand.NewSource(int64(seed)))
		s, mood := fresh(), seed%3
		for at := range 120 {
			what := fmt.Sprint("row ", seed, ", ", at)
			if r.Intn(6) < 2+mood {
				o := someOut(r, s)
				want := twinGive(s, o)
				if !is(t, what+": Give", give(s, o), want) {
					return
				}
				s = want.s
				continue
			}
			s.Rest += someFrame(r, s, mood)
			want := twinNext(s)
			if !is(t, what+": Next", next(s, ""), want) {
				return
			}
			counted(count, s, want)
			s = want.s
			for acts := want.acts; len(acts) > 0; acts = acts[1:] {
				if acts[0].Kind != isDo {
					continue
				}
				e := one(r, errnos[r.Intn(len(errnos))], ok, ok, ok, ok, ok, ok, ok, ok, ok)
				want := twinTold(s, acts[0], e)
				if !is(t, what+": Told", told(s, acts[0], e), want) {
					return
				}
				s, acts = want.s, append(acts, want.acts...)
			}
			if s.Stage == stDown {
				break
			}
		}
	}
	for _, code := range []string{"404", "406", "501", "502", "503", "504", "505", "506", "530", "540", "full", "marked", "many"} {
		if count[code] < 10 {
			t.Errorf("how often %s: %d", code, count[code])
		}
	}
}

// counted counts what a row came upon: the codes with which something ended, and some states.
func counted(count map[string]int, s api.Amqp, c step) {
	for _, a := range c.acts {
		for _, name := range []string{"channel.close", "connection.close"} {
			// Ahead of the code stand the frame's seven bytes, the class and the number.
			if b := a.Bytes; len(b) > 13 && strings.HasPrefix(b[7:], payload(name)[:4]) {
				count[fmt.Sprint(binary.BigEndian.Uint16([]byte(b[11:])))]++
			}
		}
	}
	if len(s.Ops) == 16 {
		count["full"]++
	}
	if slices.ContainsFunc(s.Given, func(g api.Given) bool { return g.Mark }) {
		count["marked"]++
	}
	if len(c.acts) > 1 && c.acts[0].Kind == isDo {
		count["many"]++
	}
}
