package amqp_test

import (
	"encoding/binary"
	"encoding/hex"
	"fmt"
	"math"
	"reflect"
	"slices"
	"strings"
	"sync"
	"testing"

	"trivet/amqp"
	"trivet/api"
)

// The exact signatures: the test isn't built if one is another.
var (
	_ func() api.Amqp                                               = amqp.New
	_ func(api.Amqp, int) (api.Amqp, []api.Act, bool)               = amqp.Next
	_ func(api.Amqp, int, api.Act, api.Errno) (api.Amqp, []api.Act) = amqp.Told
	_ func(api.Amqp, api.Out) (api.Amqp, []byte)                    = amqp.Give
	_ func(api.Amqp, int) []api.Op                                  = amqp.Lost
)

// The document's numbers, not the program's.
const (
	ok      = api.Errno(0)
	errArg  = api.Errno(1)
	errLong = api.Errno(3)
	errDown = api.Errno(20)
	errFull = api.Errno(22)
	errNone = api.Errno(33)
	errRoom = api.Errno(34)
	errDeep = api.Errno(35)

	stHeader = 0
	stStart  = 1
	stTune   = 2
	stOpen   = 3
	stUp     = 4
	stDown   = 5

	isSay = 1
	isDo  = 2
	isEnd = 3

	opDeclare   = 1
	opDelete    = 2
	opBind      = 3
	opPublish   = 5
	opSubscribe = 8
	opGet       = 10
	opAck       = 11
	opNack      = 12
	opDetach    = 13

	refDeclare = 12810
	refBind    = 12820
	refConsume = 15380
	refPublish = 15400
	refGet     = 15430
	refCommit  = 23060
)

// errnos: every error that there is, and some that there aren't.
var errnos = []api.Errno{0, 1, 2, 3, 11, 12, 20, 22, 30, 31, 32, 33, 34, 35, 36, 37, 40, 41, 50, 4, 99, -1, math.MaxInt, math.MinInt}

// greeting: the eight bytes with which a connection begins.
const greeting = "AMQP\x00\x00\x09\x01"

// me: the connection that the tests speak on, if none is told.
const me = 3

// chapter: chapter 15's table of methods: class, number, name, form.
const chapter = `
10 10 connection.start ooTSS
10 11 connection.start-ok TsSs
10 30 connection.tune hlh
10 31 connection.tune-ok hlh
10 40 connection.open ssb
10 41 connection.open-ok s
10 50 connection.close hshh
10 51 connection.close-ok
20 10 channel.open s
20 11 channel.open-ok S
20 40 channel.close hshh
20 41 channel.close-ok
50 10 queue.declare hsbT
50 11 queue.declare-ok sll
50 20 queue.bind hsssbT
50 21 queue.bind-ok
60 10 basic.qos lhb
60 11 basic.qos-ok
60 20 basic.consume hssbT
60 21 basic.consume-ok s
60 40 basic.publish hssb
60 60 basic.deliver sLbss
60 70 basic.get hsb
60 71 basic.get-ok Lbssl
60 72 basic.get-empty s
60 80 basic.ack Lb
60 90 basic.reject Lb
60 120 basic.nack Lb
85 10 confirm.select b
85 11 confirm.select-ok
90 10 tx.select
90 11 tx.select-ok
90 20 tx.commit
90 21 tx.commit-ok
90 30 tx.rollback
90 31 tx.rollback-ok
`

// kind is a row of chapter 15's table.
type kind struct {
	class, id  int
	name, form string
}

// kinds: all rows, read once: they are asked for often.
var kinds = sync.OnceValue(func() []kind {
	var all []kind
	for line := range strings.Lines(strings.TrimSpace(chapter)) {
		var k kind
		// A row without a form ends early: that isn't a fault.
		fmt.Sscan(line, &k.class, &k.id, &k.name, &k.form)
		all = append(all, k)
	}
	return all
})

// kindOf: the row of this name.
func kindOf(name string) kind {
	at := slices.IndexFunc(kinds(), func(k kind) bool { return k.name == name })
	return kinds()[at]
}

// raw: the bytes that hexadecimal digits tell, blanks apart.
func raw(digits string) string {
	b, err := hex.DecodeString(strings.ReplaceAll(digits, " ", ""))
	if err != nil {
		panic(err)
	}
	return string(b)
}

// big: the lowest so many bytes of a number, the highest first.
func big(size int, n uint64) string {
	return string(binary.BigEndian.AppendUint64(nil, n)[8-size:])
}

// frame: a frame's bytes, whatever it is.
func frame(kind, channel int, payload string) string {
	return big(1, uint64(kind)) + big(2, uint64(channel)) + big(4, uint64(len(payload))) + payload + "\xce"
}

// fields: a table's bytes.
func fields(list []api.Prop) string {
	b := ""
	for _, p := range list {
		b += big(1, uint64(len(p.Name))) + p.Name
		switch v := p.Value; v.Kind {
		case 1:
			b += "l" + big(8, uint64(v.Num))
		case 2:
			b += "t" + big(1, uint64(v.Num))
		case 3:
			b += "S" + big(4, uint64(len(v.Text))) + v.Text
		default:
			if x := float64(float32(v.Real)); math.Float64bits(x) == math.Float64bits(v.Real) {
				b += "f" + big(4, uint64(math.Float32bits(float32(v.Real))))
			} else {
				b += "d" + big(8, math.Float64bits(v.Real))
			}
		}
	}
	return big(4, uint64(len(b))) + b
}

// payload: a method's payload, of what its form asks for, in order: numbers, texts, properties; what isn't told is 0, empty or none.
func payload(name string, parts ...any) string {
	k := kindOf(name)
	b := big(2, uint64(k.class)) + big(2, uint64(k.id))
	for _, letter := range k.form {
		var part any
		if len(parts) > 0 {
			part, parts = parts[0], parts[1:]
		}
		number, _ := part.(int)
		text, _ := part.(string)
		list, _ := part.([]api.Prop)
		switch letter {
		case 's':
			b += big(1, uint64(len(text))) + text
		case 'S':
			b += big(4, uint64(len(text))) + text
		case 'T':
			b += fields(list)
		default:
			b += big(map[rune]int{'o': 1, 'b': 1, 'h': 2, 'l': 4, 'L': 8}[letter], uint64(number))
		}
	}
	return b
}

// meth: the bytes of a frame with a method.
func meth(channel int, name string, parts ...any) string {
	return frame(1, channel, payload(name, parts...))
}

// on1: the bytes of a frame with a method, on channel 1.
func on1(name string, parts ...any) string {
	return meth(1, name, parts...)
}

// head: the payload of a content header.
func head(size int, list []api.Prop, durable bool) string {
	flags, mode := 4096, "\x01"
	if durable {
		mode = "\x02"
	}
	props := ""
	if len(list) > 0 {
		flags, props = flags+8192, fields(list)
	}
	return raw("00 3c 00 00") + big(8, uint64(size)) + big(2, uint64(flags)) + props + mode
}

// content: the bytes of a header on channel 1, not durable, and of these bodies.
func content(size int, bodies ...string) string {
	b := frame(2, 1, head(size, nil, false))
	for _, s := range bodies {
		b += frame(3, 1, s)
	}
	return b
}

func whole(n int) api.Value    { return api.Value{Kind: 1, Num: n} }
func truth(n int) api.Value    { return api.Value{Kind: 2, Num: n} }
func text(s string) api.Value  { return api.Value{Kind: 3, Text: s} }
func real(x float64) api.Value { return api.Value{Kind: 4, Real: x} }

// oneProp, allProps: properties, one, and of every kind.
func oneProp() []api.Prop { return []api.Prop{{Name: "a", Value: truth(1)}} }
func allProps() []api.Prop {
	return []api.Prop{
		{Name: "a", Value: whole(math.MinInt)},
		{Name: "b", Value: truth(0)},
		{Name: "c", Value: text("hi\x00")},
		{Name: "d", Value: real(math.Copysign(0, -1))},
		{Name: "e", Value: real(0.1)},
	}
}

// say, do, end: acts.
func say(bytes string) api.Act { return api.Act{Kind: isSay, Bytes: bytes} }
func do(ref int, text string, ops ...api.Op) api.Act {
	return api.Act{Kind: isDo, Ops: ops, Ref: ref, Text: text}
}
func end() api.Act { return api.Act{Kind: isEnd} }

// detach: what is wanted when channel 1 is shut.
func detach(conn int) api.Act { return do(0, "", api.Op{Kind: opDetach, Conn: conn}) }

// step is all that Next can answer.
type step struct {
	s     api.Amqp
	acts  []api.Act
	heard bool
}

// next: what Next answers of a state with bytes put behind its Rest.
func next(s api.Amqp, in string) step {
	s.Rest += in
	after, acts, heard := amqp.Next(s, me)
	return step{after, acts, heard}
}

// unlike: where two values differ, and how; nothing, if they are the same: floats bit by bit, a nil list is an empty one.
func unlike(at string, a, b reflect.Value) string {
	switch a.Kind() {
	case reflect.Float64:
		if math.Float64bits(a.Float()) == math.Float64bits(b.Float()) {
			return ""
		}
	case reflect.Slice:
		for n := range min(a.Len(), b.Len()) {
			if found := unlike(fmt.Sprint(at, "[", n, "]"), a.Index(n), b.Index(n)); found != "" {
				return found
			}
		}
		if a.Len() == b.Len() {
			return ""
		}
	case reflect.Struct:
		for n := range a.NumField() {
			if found := unlike(at+"."+a.Type().Field(n).Name, a.Field(n), b.Field(n)); found != "" {
				return found
			}
		}
		return ""
	default:
		if a.Equal(b) {
			return ""
		}
	}
	return fmt.Sprintf("%s is %.500s\nnot %.500s", at, fmt.Sprintf("%#v", a), fmt.Sprintf("%#v", b))
}

// is: that something is just this.
func is[T any](t *testing.T, what string, got, want T) bool {
	t.Helper()
	found := unlike("it", reflect.ValueOf(got), reflect.ValueOf(want))
	if found != "" {
		t.Errorf("%.500s: %s", what, found)
	}
	return found == ""
}

// changed: a state, changed.
func changed(s api.Amqp, change func(s *api.Amqp)) api.Amqp {
	s = remade(s)
	change(&s)
	return s
}

// remade: a state in memory of its own.
func remade(s api.Amqp) api.Amqp {
	s.Subs, s.Given, s.Own = slices.Clone(s.Subs), slices.Clone(s.Given), slices.Clone(s.Own)
	s.Pub.Msg.Props = slices.Clone(s.Pub.Msg.Props)
	s.Ops = slices.Clone(s.Ops)
	for at := range s.Ops {
		s.Ops[at].Msg.Props = slices.Clone(s.Ops[at].Msg.Props)
	}
	return s
}

// fresh: where a connection begins.
func fresh() api.Amqp { return api.Amqp{Window: 32, Want: -1} }

// staged: a connection in a stage in which channel 1 isn't open.
func staged(stage int) api.Amqp {
	s := fresh()
	s.Stage = stage
	return s
}

// up: a connection on which channel 1 was opened, and nothing more.
func up() api.Amqp {
	s := staged(stUp)
	s.Channel = true
	return s
}

// busy: one with some of all that there is outside of a transaction.
func busy() api.Amqp {
	s := up()
	s.Confirm, s.Window, s.Count, s.Num, s.Seq = true, 5, 7, 9, 4
	s.Subs = []api.Named{{Name: "z", Sub: 5, Queue: "q"}, {Name: "c1", Sub: 6, Queue: "p", Auto: true}, {Name: "b", Sub: 7, Queue: "p"}}
	s.Given = []api.Given{{Num: 2, Sub: 5, Queue: "q", Tag: 20}, {Num: 5, Sub: 0, Queue: "p", Tag: 3}, {Num: 6, Sub: 7, Queue: "p", Tag: 4}, {Num: 9, Sub: 5, Queue: "q", Tag: 24}}
	s.Own = []string{"own", "a"}
	return s
}

// publishOf: the operation that a publish to amq.topic wants.
func publishOf(topic, body string) api.Op {
	return api.Op{Kind: opPublish, Msg: api.Msg{Topic: topic, Body: body}}
}

// inTx: one with a transaction under way: a publish and an ack are in it.
func inTx() api.Amqp {
	s := busy()
	s.Confirm, s.Seq, s.Tx = false, 0, true
	s.Given[1].Mark = true
	s.Ops = []api.Op{publishOf("t", "in it"), {Kind: opAck, Conn: me, Queue: "p", N: 3}}
	s.Ops[0].Msg.Props = allProps()
	return s
}

// headerDue, bodyDue: one on which a publish's header is due, or its body, of five bytes, of which two are there.
func headerDue(s api.Amqp) api.Amqp {
	s = remade(s)
	s.Want, s.Pub = 0, api.Op{Kind: opPublish, Queue: "q", Msg: api.Msg{Topic: "q"}}
	return s
}
func bodyDue(s api.Amqp) api.Amqp {
	s = headerDue(s)
	s.Want, s.Size = 1, 5
	s.Pub.Msg.Body, s.Pub.Msg.Props, s.Pub.Msg.Durable = "he", allProps(), true
	return s
}

// downed: what is left of a state when its connection ends.
func downed(s api.Amqp) api.Amqp {
	s.Stage, s.Rest = stDown, ""
	return s
}

// shut: what is left of a state when channel 1 is shut.
func shut(s api.Amqp) api.Amqp {
	return api.Amqp{Rest: s.Rest, Stage: s.Stage, Window: 32, Count: s.Count, Want: -1, Own: s.Own}
}

// What may stand behind a frame: it is looked at by no call but the next one.
var behind = []string{"", "\x01", "GET /", greeting, on1("basic.get", 0, "q"), strings.Repeat("\xce", 40)}

// leads: that of a state these bytes are heard as one frame, with just these acts, and this state behind it.
func leads(t *testing.T, what string, s api.Amqp, in string, want api.Amqp, acts ...api.Act) {
	t.Helper()
	for _, more := range behind {
		// Behind the end nothing is left.
		if want.Rest = more; want.Stage == stDown {
			want.Rest = ""
		}
		if !is(t, what, next(s, in+more), step{want, acts, true}) {
			return
		}
	}
}

// ends: that of a state these bytes end the connection with a code.
func ends(t *testing.T, what string, s api.Amqp, in string, code int) {
	t.Helper()
	leads(t, fmt.Sprint(what, ": ", code), s, in, downed(s), say(meth(0, "connection.close", code)), end())
}

// shuts: that of a state these bytes end the channel with a code.
func shuts(t *testing.T, what string, s api.Amqp, in string, code int) {
	t.Helper()
	leads(t, fmt.Sprint(what, ": ", code), s, in, shut(s), say(on1("channel.close", code)), detach(me))
}

// waits: that of a state these bytes aren't a whole frame yet.
func waits(t *testing.T, what string, s api.Amqp, in string) {
	t.Helper()
	want := s
	want.Rest += in
	is(t, what, next(s, in), step{s: want})
}
