package core_test

import (
	"fmt"
	"math"
	"reflect"
	"slices"
	"strings"
	"testing"

	"trivet/api"
	"trivet/core"
)

// The exact signatures: the test isn't built if one is another.
var (
	_ func(api.Core, api.Op) (api.Core, []api.Out, api.Errno) = core.Do
	_ func(api.Core) (api.Core, api.Errno)                    = core.Strip
	_ func(api.Core) bool                                     = core.Good
	_ func(api.Core) api.Core                                 = core.Copy
)

// The document's numbers, not the program's.
const (
	ok       = api.Errno(0)
	errArg   = api.Errno(1)
	errTopic = api.Errno(30)
	errName  = api.Errno(31)
	errThere = api.Errno(32)
	errNone  = api.Errno(33)
	errRoom  = api.Errno(34)
	errDeep  = api.Errno(35)
	errMsg   = api.Errno(36)
	maxNum   = 1 << 40
)

const (
	declare     = 1
	remove      = 2
	bind        = 3
	unbind      = 4
	publish     = 5
	release     = 6
	forget      = 7
	subscribe   = 8
	unsubscribe = 9
	get         = 10
	ack         = 11
	nack        = 12
	detach      = 13
	tick        = 14
)

var (
	// What is no name.
	nameless = []string{"", "A", "a.b", "a b", "a/b", "*", "#", "ä", "a\xff", "a\x00", strings.Repeat("a", 17), strings.Repeat("a", 1<<16)}
	// What is no topic.
	topicless = []string{"", "A", "a.", ".a", "a..b", "a b", "*", "a.*", "#", "a.#", "ä", "a.b.c.d.e.f.g.h.i", strings.Repeat("a", 17), strings.Repeat("a.", 1<<16)}
	// What is no pattern.
	patternless = []string{"", "A", "a.", ".a", "a..b", "#.a", "a*", "**", "##", "a.#.b", "ä", "a.b.c.d.e.f.g.h.#", strings.Repeat("a", 17), strings.Repeat("a.", 1<<16)}
	// What is no connection's number, no subscription's, no window, no packet.
	connless   = []int{-1, 8, math.MinInt, math.MaxInt}
	subless    = []int{-1, maxNum + 1, math.MinInt, math.MaxInt}
	windowless = []int{0, 33, -1, math.MinInt, math.MaxInt}
	packetless = []int{0, 65536, -1, math.MinInt, math.MaxInt}
)

// wrongMsgs: messages that can't be.
func wrongMsgs() map[string]api.Msg {
	list := map[string]api.Msg{
		"a body too long":    {Topic: "a", Body: strings.Repeat("x", 1025)},
		"no property's name": {Topic: "a", Body: "x", Props: []api.Prop{{Name: "", Value: api.Value{Kind: 1}}}},
		"no kind":            {Topic: "a", Body: "x", Props: []api.Prop{{Name: "a"}}},
		"a name twice":       {Topic: "a", Body: "x", Props: []api.Prop{{Name: "a", Value: api.Value{Kind: 1}}, {Name: "a", Value: api.Value{Kind: 1}}}},
		"17 properties":      {Topic: "a", Body: "x", Props: props(17)},
		"Until below 0":      {Topic: "a", Body: "x", Until: -1},
		"Until beyond":       {Topic: "a", Body: "x", Until: maxNum + 1},
	}
	for _, s := range topicless {
		list[fmt.Sprintf("the topic %.20q", s)] = api.Msg{Topic: s, Body: "x"}
	}
	return list
}

// props: so many properties.
func props(n int) []api.Prop {
	var list []api.Prop
	for i := range n {
		list = append(list, api.Prop{Name: fmt.Sprintf("p%02d", i), Value: api.Value{Kind: 1, Num: i}})
	}
	return list
}

// rich: a durable message with all that one can have.
func rich(topic, body string) api.Msg {
	return api.Msg{Topic: topic, Body: body, Durable: true, Until: 1000, Props: []api.Prop{
		{Name: "a", Value: api.Value{Kind: 1, Num: math.MinInt}},
		{Name: "b", Value: api.Value{Kind: 2, Num: 1}},
		{Name: "c", Value: api.Value{Kind: 3, Text: body}},
		{Name: "d", Value: api.Value{Kind: 4, Real: math.Copysign(0, -1)}},
		{Name: "e", Value: api.Value{Kind: 4, Real: math.Float64frombits(0x7ff8000000000001)}},
	}}
}

// fleeting: a message that isn't durable.
func fleeting(topic, body string) api.Msg {
	m := rich(topic, body)
	m.Durable = false
	return m
}

func item(seq int, body string) api.Item {
	return api.Item{Seq: seq, Msg: rich("a.b", body)}
}

// base: a core that can be, with some of all; nothing in it waits for a subscription.
func base() api.Core {
	a := api.Queue{Name: "a", Durable: true, Depth: 6, Seq: 9, Tag: 5}
	a.Items = []api.Item{item(3, "three"), item(5, "five")}
	a.Items[0].Again = true
	a.Held = []api.Held{
		{Tag: 2, Conn: 1, Sub: 4, Item: item(4, "four")},
		{Tag: 3, Conn: 7, Sub: maxNum, Item: item(8, "eight")},
		{Tag: 5, Conn: 1, Sub: 7, Item: item(1, "one")},
	}
	a.Held[1].Item.Again = true
	b := api.Queue{Name: "b", Depth: 4, Seq: 4, Tag: 2}
	b.Items = []api.Item{item(2, "b-two"), {Seq: 3, Msg: fleeting("x", "b-three")}}
	b.Held = []api.Held{{Tag: 2, Conn: 1, Sub: 4, Item: item(1, "b-one")}}
	c := api.Queue{Name: "c", Durable: true, Depth: 2, Seq: 4, Tag: 1}
	c.Items = []api.Item{{Seq: 4, Msg: fleeting("x", "c-four")}}
	c.Held = []api.Held{{Tag: 1, Conn: 2, Sub: 0, Item: item(2, "c-two")}}
	d := api.Queue{Name: "d", Durable: true, Depth: 64}
	return api.Core{
		Now:    50,
		Queues: []api.Queue{a, b, c, d},
		Binds:  []api.Bind{{Queue: "a", Pattern: "n.*"}, {Queue: "a", Pattern: "n.o"}, {Queue: "b", Pattern: "#"}, {Queue: "c", Pattern: "full"}},
		Subs: []api.Sub{
			{Conn: 1, Sub: 4, Queue: "a", Window: 1},
			{Conn: 1, Sub: 7, Queue: "d", Window: 32},
			{Conn: 2, Sub: 0, Queue: "c", Window: 1},
			{Conn: 7, Sub: maxNum, Queue: "a", Window: 1},
		},
		Kept:    []api.Msg{rich("k", "kept"), fleeting("k.a", "fleeting"), rich("z", "last")},
		Clients: []api.Client{{Name: "me", Packets: []int{1, 7, 65535}}, {Name: "you", Packets: []int{7}}},
	}
}

// with: the base, changed.
func with(change func(c *api.Core)) api.Core {
	c := base()
	change(&c)
	return c
}

// crowd: a core with as many of all as there may be: 16 queues q00 to q15, 64 binds (each queue's w0 to w3), 32 subscriptions (4 of each connection, to q00), 16 retained messages k00 to k15, 16 clients c00 to c15 with 32 packets each.
func crowd() api.Core {
	var c api.Core
	for n := range 16 {
		name := fmt.Sprintf("q%02d", n)
		c.Queues = append(c.Queues, api.Queue{Name: name, Durable: true, Depth: 2})
		for w := range 4 {
			c.Binds = append(c.Binds, api.Bind{Queue: name, Pattern: fmt.Sprintf("w%d", w)})
		}
		c.Kept = append(c.Kept, rich(fmt.Sprintf("k%02d", n), name))
		client := api.Client{Name: fmt.Sprintf("c%02d", n)}
		for p := range 32 {
			client.Packets = append(client.Packets, 100+p)
		}
		c.Clients = append(c.Clients, client)
	}
	for n := range 32 {
		c.Subs = append(c.Subs, api.Sub{Conn: n / 4, Sub: n % 4, Queue: "q00", Window: 1})
	}
	return c
}

// alike: whether two values are the same, floats bit by bit; nil and empty lists are the same.
func alike(a, b reflect.Value) bool {
	switch a.Kind() {
	case reflect.Float64:
		return math.Float64bits(a.Float()) == math.Float64bits(b.Float())
	case reflect.Slice:
		for at := range a.Len() {
			if a.Len() != b.Len() || !alike(a.Index(at), b.Index(at)) {
				return false
			}
		}
		return a.Len() == b.Len()
	case reflect.Struct:
		for at := range a.NumField() {
			if !alike(a.Field(at), b.Field(at)) {
				return false
			}
		}
		return true
	}
	return a.Equal(b)
}

func same[T any](a, b T) bool {
	return alike(reflect.ValueOf(a), reflect.ValueOf(b))
}

// is: that something is just this.
func is[T any](t *testing.T, what string, got, want T) {
	t.Helper()
	if !same(got, want) {
		t.Errorf("%s: %.3000s\nnot %.3000s", what, fmt.Sprintf("%+v", got), fmt.Sprintf("%+v", want))
	}
}

// answer is all that a call can answer.
type answer struct {
	core api.Core
	out  []api.Out
	err  api.Errno
}

func do(c api.Core, o api.Op) answer {
	after, out, err := core.Do(c, o)
	return answer{after, out, err}
}

func strip(c api.Core) answer {
	after, err := core.Strip(c)
	return answer{core: after, err: err}
}

// refused: that the error is this one, and nothing stands beside it.
func refused(t *testing.T, what string, a answer, want api.Errno) {
	t.Helper()
	if a.err != want {
		t.Errorf("%s: answers %d, not %d", what, a.err, want)
	}
	if !same(a.core, api.Core{}) || len(a.out) != 0 {
		t.Errorf("%s: beside the error %d stands %.2000s", what, a.err, fmt.Sprintf("%+v, %+v", a.core, a.out))
	}
}

// leads: that an operation is done, to this core, with this handed out; and that this core can be.
func leads(t *testing.T, what string, a answer, want api.Core, out ...api.Out) {
	t.Helper()
	if a.err != ok {
		t.Errorf("%s: answers %d", what, a.err)
		return
	}
	is(t, what+": the core", a.core, want)
	is(t, what+": what is handed out", a.out, out)
	if !core.Good(a.core) {
		t.Errorf("%s: leads to a core that can't be", what)
	}
}

// done: the core behind an operation that has to be done.
func done(t *testing.T, what string, a answer) api.Core {
	t.Helper()
	if a.err != ok {
		t.Fatalf("%s: answers %d", what, a.err)
	}
	return a.core
}

// row: the core behind operations, one behind the other, and all that they hand out.
func row(t *testing.T, c api.Core, ops ...api.Op) (api.Core, []api.Out) {
	t.Helper()
	var all []api.Out
	for at, o := range ops {
		a := do(c, o)
		c = done(t, fmt.Sprintf("operation %d, %+v", at, o), a)
		all = append(all, a.out...)
	}
	return c, all
}

// queueOf: a core's queue of this name, which has to be there.
func queueOf(t *testing.T, c api.Core, name string) api.Queue {
	t.Helper()
	at := slices.IndexFunc(c.Queues, func(q api.Queue) bool { return q.Name == name })
	if at < 0 {
		t.Fatalf("no queue %s", name)
	}
	return c.Queues[at]
}

// waits, holds: the bodies of what waits, with + behind those that were handed out before; of what is held, by which tag.
func waits(q api.Queue) string {
	var list []string
	for _, i := range q.Items {
		body := i.Msg.Body
		if i.Again {
			body += "+"
		}
		list = append(list, body)
	}
	return strings.Join(list, " ")
}

func holds(q api.Queue) string {
	var list []string
	for _, h := range q.Held {
		list = append(list, fmt.Sprintf("%d:%s", h.Tag, h.Item.Msg.Body))
	}
	return strings.Join(list, " ")
}

// stands: that these wait in a queue, and these are held.
func stands(t *testing.T, what string, c api.Core, name, waiting, held string) {
	t.Helper()
	q := queueOf(t, c, name)
	if waits(q) != waiting || holds(q) != held {
		t.Errorf("%s: in %s %q wait and %q are held, not %q and %q", what, name, waits(q), holds(q), waiting, held)
	}
}

// told: what is handed out, as a short text: connection, subscription, tag, queue, body, + if it was handed out before, k if it is retained.
func told(out []api.Out) string {
	var list []string
	for _, o := range out {
		s := fmt.Sprintf("%d/%d#%d %s:%s", o.Conn, o.Sub, o.Tag, o.Queue, o.Msg.Body)
		if o.Again {
			s += "+"
		}
		if o.Kept {
			s += "k"
		}
		list = append(list, s)
	}
	return strings.Join(list, ", ")
}

// handed: that this is handed out.
func handed(t *testing.T, what string, out []api.Out, want ...string) {
	t.Helper()
	if told(out) != strings.Join(want, ", ") {
		t.Errorf("%s: handed out is %q, not %q", what, told(out), strings.Join(want, ", "))
	}
}
