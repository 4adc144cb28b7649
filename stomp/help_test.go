package stomp_test

import (
	"fmt"
	"math"
	"reflect"
	"slices"
	"strings"
	"testing"

	"trivet/api"
	"trivet/stomp"
)

// The exact signatures: the test isn't built if one is another.
var (
	_ func() api.Stomp                                                = stomp.New
	_ func(api.Stomp, int) (api.Stomp, []api.Act, bool)               = stomp.Next
	_ func(api.Stomp, int, api.Act, api.Errno) (api.Stomp, []api.Act) = stomp.Told
	_ func(api.Stomp, api.Out) (api.Stomp, []byte)                    = stomp.Give
	_ func(api.Stomp, int) []api.Op                                   = stomp.Lost
)

// The document's numbers, not the program's.
const (
	ok      = api.Errno(0)
	errArg  = api.Errno(1)
	errNone = api.Errno(33)
	errDeep = api.Errno(35)

	isSay = 1
	isDo  = 2
	isEnd = 3

	opDeclare     = 1
	opDelete      = 2
	opBind        = 3
	opPublish     = 5
	opSubscribe   = 8
	opUnsubscribe = 9
	opAck         = 11
	opNack        = 12
	opDetach      = 13
)

// errnos: every error that there is, and some that there aren't.
var errnos = []api.Errno{0, 1, 2, 3, 11, 12, 20, 22, 30, 31, 32, 33, 34, 35, 36, 37, 40, 41, 50, 4, 99, -1, math.MaxInt, math.MinInt}

// me: the connection that the tests speak on, if none is told.
const me = 3

// escaped: how a byte is written by a backslash.
var escaped = strings.NewReplacer("\\", `\\`, "\r", `\r`, "\n", `\n`, ":", `\c`)

// wire: a frame's bytes, of headers of these names and texts, in turns.
func wire(command, body string, pairs ...string) string {
	b := command + "\n"
	for at := 0; at < len(pairs); at += 2 {
		name, text := pairs[at], pairs[at+1]
		if command != "CONNECT" && command != "CONNECTED" {
			name, text = escaped.Replace(name), escaped.Replace(text)
		}
		b += name + ":" + text + "\n"
	}
	return b + "\n" + body + "\x00"
}

// line: the bytes of a frame without a body.
func line(command string, pairs ...string) string {
	return wire(command, "", pairs...)
}

// with: headers, and some more of them behind.
func with(pairs []string, more ...string) []string {
	return append(slices.Clone(pairs), more...)
}

// without: headers but those of a name.
func without(pairs []string, name string) []string {
	var list []string
	for at := 0; at < len(pairs); at += 2 {
		if pairs[at] != name {
			list = append(list, pairs[at], pairs[at+1])
		}
	}
	return list
}

// long: a text of so many bytes.
func long(n int) string { return strings.Repeat("x", n) }

func whole(n int) api.Value    { return api.Value{Kind: 1, Num: n} }
func truth(n int) api.Value    { return api.Value{Kind: 2, Num: n} }
func text(s string) api.Value  { return api.Value{Kind: 3, Text: s} }
func real(x float64) api.Value { return api.Value{Kind: 4, Real: x} }

// oneProp, allProps: properties, one, and of every kind.
func oneProp() []api.Prop { return []api.Prop{{Name: "a", Value: truth(1)}} }
func allProps() []api.Prop {
	return []api.Prop{
		{Name: "a", Value: whole(math.MinInt)},
		{Name: "b", Value: truth(0)},
		{Name: "c", Value: text("h:i\x00\r\n\\")},
		{Name: "d", Value: real(math.Copysign(0, -1))},
		{Name: "e", Value: real(0.1)},
	}
}

// allPairs: the headers that tell allProps, in another order.
func allPairs() []string {
	return []string{"p-d", "f-0", "p-c", "th:i\x00\r\n\\", "p-e", "f0.1", "p-a", "i-9223372036854775808", "p-b", "b0"}
}

// say, do, end: acts.
func say(bytes string) api.Act { return api.Act{Kind: isSay, Bytes: bytes} }
func do(text string, ops ...api.Op) api.Act {
	return api.Act{Kind: isDo, Ops: ops, Text: text}
}
func end() api.Act { return api.Act{Kind: isEnd} }

// receipt: what is said when a frame with such a header is done.
func receipt(text string) []api.Act {
	if text == "" {
		return nil
	}
	return []api.Act{say(line("RECEIPT", "receipt-id", text))}
}

// failed: what is wanted of a frame that ends the connection with a word.
func failed(word string) []api.Act {
	return []api.Act{say(line("ERROR", "message", word)), end()}
}

// step is all that Next can answer.
type step struct {
	s     api.Stomp
	acts  []api.Act
	heard bool
}

// next: what Next answers of a state with bytes put behind its Rest.
func next(s api.Stomp, in string) step {
	s.Rest += in
	after, acts, heard := stomp.Next(s, me)
	return step{after, acts, heard}
}

// unlike: where two values differ, and how; nothing, if they are the same: floats bit by bit, a nil list is an empty one.
func unlike(at string, a, b reflect.Value) string {
	switch a.Kind() {
	case reflect.Float64:
		if math.Float64bits(a.Float()) == math.Float64bits(b.Float()) {
			return ""
		}
	case reflect.Slice:
		for n := range min(a.Len(), b.Len()) {
			if found := unlike(fmt.Sprint(at, "[", n, "]"), a.Index(n), b.Index(n)); found != "" {
				return found
			}
		}
		if a.Len() == b.Len() {
			return ""
		}
	case reflect.Struct:
		for n := range a.NumField() {
			if found := unlike(at+"."+a.Type().Field(n).Name, a.Field(n), b.Field(n)); found != "" {
				return found
			}
		}
		return ""
	default:
		if a.Equal(b) {
			return ""
		}
	}
	return fmt.Sprintf("%s is %.500s\nnot %.500s", at, fmt.Sprintf("%#v", a), fmt.Sprintf("%#v", b))
}

// is: that something is just this.
func is[T any](t *testing.T, what string, got, want T) bool {
	t.Helper()
	found := unlike("it", reflect.ValueOf(got), reflect.ValueOf(want))
	if found != "" {
		t.Errorf("%.500s: %s", what, found)
	}
	return found == ""
}

// remade: a state in memory of its own.
func remade(s api.Stomp) api.Stomp {
	s.Subs, s.Given, s.Txs = slices.Clone(s.Subs), slices.Clone(s.Given), slices.Clone(s.Txs)
	for at := range s.Txs {
		ops := slices.Clone(s.Txs[at].Ops)
		for n := range ops {
			ops[n].Msg.Props = slices.Clone(ops[n].Msg.Props)
		}
		s.Txs[at].Ops = ops
	}
	return s
}

// changed: a state, changed.
func changed(s api.Stomp, change func(s *api.Stomp)) api.Stomp {
	s = remade(s)
	change(&s)
	return s
}

// fresh: where a connection begins.
func fresh() api.Stomp { return api.Stomp{} }

// up: a connection that was connected, and nothing more.
func up() api.Stomp { return api.Stomp{Up: true} }

// busy: one with some of all that there is.
func busy() api.Stomp {
	return api.Stomp{
		Up:    true,
		Count: 9,
		Num:   12,
		Subs: []api.Named{
			{Name: "z", Sub: 2, Queue: "q"},
			{Name: "0", Sub: 5, Queue: "s3-5", Auto: true},
			{Name: "a:b", Sub: 6, Queue: "s3-6"},
			{Name: "b", Sub: 9, Queue: "p", Auto: true},
		},
		Given: []api.Given{
			{Num: 2, Sub: 2, Queue: "q", Tag: 20},
			{Num: 5, Sub: 6, Queue: "s3-6", Tag: 3},
			{Num: 6, Sub: 2, Queue: "q", Tag: 24},
			{Num: 10, Sub: 6, Queue: "s3-6", Tag: 4},
			{Num: 12, Sub: 2, Queue: "q", Tag: 25},
		},
		Txs: []api.Trans{
			{Name: "t", Ops: []api.Op{sendOf("", "a.b", "in it", true, allProps()), {Kind: opAck, Conn: me, Queue: "q", N: 19}}},
			{Name: "none"},
			{Name: "t:2", Ops: []api.Op{{Kind: opNack, Conn: me, Queue: "s3-6", N: 2, Auto: true}}},
		},
	}
}

// filled: one with as much as there can be: eight subscriptions, four transactions, of which one has 16 operations.
func filled() api.Stomp {
	s := api.Stomp{Up: true, Count: 1 << 20, Num: 100}
	for n := range 8 {
		s.Subs = append(s.Subs, api.Named{Name: fmt.Sprint("id", n), Sub: 7 * n, Queue: []string{fmt.Sprint("s3-", 7*n), "q"}[n%2], Auto: n%3 == 0})
	}
	for n := range 40 {
		s.Given = append(s.Given, api.Given{Num: 2*n + 1, Sub: 7 * (n % 8), Queue: "q", Tag: 100 - n})
	}
	for n := range 4 {
		s.Txs = append(s.Txs, api.Trans{Name: fmt.Sprint("t", n), Ops: sends(n * 16 / 3)})
	}
	return s
}

// opened: states in which a connection is up.
func opened() map[string]api.Stomp {
	return map[string]api.Stomp{"up": up(), "busy": busy(), "filled": filled()}
}

// sendOf: the operation that a SEND wants.
func sendOf(queue, topic, body string, durable bool, props []api.Prop) api.Op {
	return api.Op{Kind: opPublish, Queue: queue, Msg: api.Msg{Topic: topic, Body: body, Durable: durable, Props: props}}
}

// sends: so many operations that can be told from one another.
func sends(count int) []api.Op {
	var list []api.Op
	for n := range count {
		list = append(list, sendOf("", "t", fmt.Sprint("body ", n), false, oneProp()))
	}
	return list
}

// downed: what is left of a state when its connection ends.
func downed(s api.Stomp) api.Stomp {
	s.Down, s.Rest = true, ""
	return s
}

// What may stand behind a frame: it is looked at by no call but the next one.
var behind = []string{"", "\n", "\x00", "GET /", "CONNECT\n", line("CONNECT", "accept-version", "1.2"), line("BEGIN", "transaction", "t"), strings.Repeat("\xff", 40)}

// leads: that of a state these bytes are heard as one frame, with just these acts, and this state behind it.
func leads(t *testing.T, what string, s api.Stomp, in string, want api.Stomp, acts ...api.Act) {
	t.Helper()
	for _, more := range behind {
		// Behind the end nothing is left.
		if want.Rest = more; want.Down {
			want.Rest = ""
		}
		if !is(t, what, next(s, in+more), step{want, acts, true}) {
			return
		}
	}
}

// ends: that of a state these bytes end the connection with a word.
func ends(t *testing.T, what string, s api.Stomp, in string, word string) {
	t.Helper()
	leads(t, what+": "+word, s, in, downed(s), failed(word)...)
}

// waits: that of a state these bytes aren't a whole frame yet; what is left of them.
func waits(t *testing.T, what string, s api.Stomp, in, left string) {
	t.Helper()
	want := s
	want.Rest = left
	is(t, what, next(s, in), step{s: want})
}
