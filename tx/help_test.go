package tx_test

import (
	"fmt"
	"math"
	"math/rand"
	"reflect"
	"slices"
	"strings"
	"testing"

	"trivet/api"
	"trivet/core"
	"trivet/tx"
)

// The exact signatures: the test isn't built if one is another.
var (
	_ func(api.Op) bool                                              = tx.Fits
	_ func([]api.Op, api.Op) ([]api.Op, api.Errno)                   = tx.Add
	_ func(api.Core, []api.Op) (api.Core, []api.Out, int, api.Errno) = tx.Run
)

// The document's numbers, not the program's.
const (
	ok       = api.Errno(0)
	errArg   = api.Errno(1)
	errTopic = api.Errno(30)
	errName  = api.Errno(31)
	errThere = api.Errno(32)
	errNone  = api.Errno(33)
	errRoom  = api.Errno(34)
	errDeep  = api.Errno(35)
	errMsg   = api.Errno(36)
	maxTx    = 16
	maxNum   = 1 << 40
)

const (
	declare     = 1
	remove      = 2
	bind        = 3
	unbind      = 4
	publish     = 5
	release     = 6
	forget      = 7
	subscribe   = 8
	unsubscribe = 9
	get         = 10
	ack         = 11
	nack        = 12
	detach      = 13
	tick        = 14
)

// What is no kind of an operation.
var kindless = []int{0, 15, 16, 99, -1, -5, -11, 256 + publish, 1<<32 + publish, 1<<32 + ack, math.MinInt, math.MaxInt}

// The kinds that fit in no list.
var fitless = []int{declare, remove, bind, unbind, release, forget, subscribe, unsubscribe, get, detach, tick}

// rich: a durable message with all that one can have.
func rich(topic, body string) api.Msg {
	return api.Msg{Topic: topic, Body: body, Durable: true, Until: 1000, Props: []api.Prop{
		{Name: "a", Value: api.Value{Kind: 1, Num: math.MinInt}},
		{Name: "b", Value: api.Value{Kind: 2, Num: 1}},
		{Name: "c", Value: api.Value{Kind: 3, Text: body}},
		{Name: "d", Value: api.Value{Kind: 4, Real: math.Copysign(0, -1)}},
	}}
}

// base: a core that can be, with some of all: in a two wait and two are held, b is full, d hands out at once; nothing in it waits for a subscription.
func base() api.Core {
	item := func(seq int, body string) api.Item { return api.Item{Seq: seq, Msg: rich("n.o", body)} }
	a := api.Queue{Name: "a", Durable: true, Depth: 30, Seq: 9, Tag: 5, Items: []api.Item{item(5, "five"), item(6, "six")}}
	a.Held = []api.Held{{Tag: 2, Conn: 1, Sub: 4, Item: item(3, "three")}, {Tag: 5, Conn: 2, Sub: 0, Item: item(4, "four")}}
	b := api.Queue{Name: "b", Depth: 1, Seq: 1, Items: []api.Item{item(1, "b-one")}}
	return api.Core{
		Now:    50,
		Queues: []api.Queue{a, b, {Name: "c", Depth: 4}, {Name: "d", Depth: 64}},
		Binds:  []api.Bind{{Queue: "a", Pattern: "n.*"}, {Queue: "b", Pattern: "full"}, {Queue: "c", Pattern: "#"}},
		Subs: []api.Sub{
			{Conn: 1, Sub: 4, Queue: "a", Window: 1},
			{Conn: 2, Sub: 0, Queue: "a", Window: 1},
			{Conn: 7, Sub: maxNum, Queue: "d", Window: 32},
		},
		Kept:    []api.Msg{rich("k", "kept"), rich("z", "last")},
		Clients: []api.Client{{Name: "me", Packets: []int{1, 7, 65535}}},
	}
}

// with: the base, changed.
func with(change func(c *api.Core)) api.Core {
	c := base()
	change(&c)
	return c
}

// wrongCores: cores that can't be.
func wrongCores() map[string]api.Core {
	return map[string]api.Core{
		"nothing but a tick below 0": {Now: -1},
		"nothing but a tick beyond":  {Now: maxNum + 1},
		"the least tick":             {Now: math.MinInt},
		"queues that fall":           with(func(c *api.Core) { c.Queues[0], c.Queues[1] = c.Queues[1], c.Queues[0] }),
		"a queue too deep":           with(func(c *api.Core) { c.Queues[3].Depth = 65 }),
		"an item's number twice":     with(func(c *api.Core) { c.Queues[0].Items[0].Seq = 3 }),
		"a bind to no queue":         with(func(c *api.Core) { c.Binds[2].Queue = "e" }),
		"a subscription twice":       with(func(c *api.Core) { c.Subs[1] = c.Subs[0] }),
		"a retained one bodiless":    with(func(c *api.Core) { c.Kept[1].Body = "" }),
		"a client without a packet":  with(func(c *api.Core) { c.Clients[0].Packets = nil }),
	}
}

// straight: a publish to a queue.
func straight(queue, body string) api.Op {
	return api.Op{Kind: publish, Queue: queue, Msg: rich("n.o", body)}
}

// times: a list of the same operation, so many times.
func times(n int, o api.Op) []api.Op {
	var list []api.Op
	for range n {
		list = append(list, o)
	}
	return list
}

// plainOps: of each kind one that the base doesn't refuse.
func plainOps() map[int]api.Op {
	return map[int]api.Op{
		declare:     {Kind: declare, Queue: "e", N: 3},
		remove:      {Kind: remove, Queue: "b"},
		bind:        {Kind: bind, Queue: "c", Text: "*", Keep: true, Conn: 3, Sub: 9},
		unbind:      {Kind: unbind, Queue: "c", Text: "#"},
		publish:     {Kind: publish, Msg: rich("n.o", "new"), Keep: true, Text: "me", N: 8},
		release:     {Kind: release, Text: "me", N: 7},
		forget:      {Kind: forget, Text: "me"},
		subscribe:   {Kind: subscribe, Conn: 3, Sub: 9, Queue: "a", N: 32},
		unsubscribe: {Kind: unsubscribe, Conn: 1, Sub: 4},
		get:         {Kind: get, Conn: 3, Sub: 9, Queue: "a"},
		ack:         {Kind: ack, Conn: 1, Queue: "a", N: 2},
		nack:        {Kind: nack, Conn: 2, Queue: "a", N: 5, Auto: true},
		detach:      {Kind: detach, Conn: 1},
		tick:        {Kind: tick, N: 2000},
	}
}

// refusal is an operation that the base refuses, and by which error.
type refusal struct {
	op  api.Op
	err api.Errno
}

// refusals: operations of all kinds of errors.
func refusals() []refusal {
	list := []refusal{
		{straight("b", "new"), errDeep},
		{straight("e", "new"), errNone},
		{api.Op{Kind: publish, Msg: rich("full", "new")}, errDeep},
		{api.Op{Kind: publish, Msg: rich("A", "new")}, errMsg},
		{api.Op{Kind: publish, Msg: rich("n.o", "new"), Text: "A", N: 1}, errName},
		{api.Op{Kind: publish, Msg: rich("n.o", "new"), Text: "me", N: 65536}, errArg},
		{api.Op{Kind: ack, Conn: 1, Queue: "a", N: 5}, errNone},
		{api.Op{Kind: nack, Conn: 1, Queue: "e", N: 2, Auto: true}, errNone},
		{api.Op{Kind: declare, Queue: "a", N: 7}, errThere},
		{api.Op{Kind: bind, Queue: "a", Text: "#.a"}, errTopic},
		{api.Op{Kind: subscribe, Queue: "a", N: 33}, errArg},
		{api.Op{Kind: tick, N: -1}, errArg},
	}
	for _, kind := range kindless {
		list = append(list, refusal{api.Op{Kind: kind}, errArg})
	}
	return list
}

// alike: whether two values are the same, floats bit by bit; nil and empty lists are the same.
func alike(a, b reflect.Value) bool {
	switch a.Kind() {
	case reflect.Float64:
		return math.Float64bits(a.Float()) == math.Float64bits(b.Float())
	case reflect.Slice:
		for at := range a.Len() {
			if a.Len() != b.Len() || !alike(a.Index(at), b.Index(at)) {
				return false
			}
		}
		return a.Len() == b.Len()
	case reflect.Struct:
		for at := range a.NumField() {
			if !alike(a.Field(at), b.Field(at)) {
				return false
			}
		}
		return true
	}
	return a.Equal(b)
}

func same[T any](a, b T) bool {
	return alike(reflect.ValueOf(a), reflect.ValueOf(b))
}

// is: that something is just this.
func is[T any](t *testing.T, what string, got, want T) {
	t.Helper()
	if !same(got, want) {
		t.Errorf("%s: %.3000s\nnot %.3000s", what, fmt.Sprintf("%+v", got), fmt.Sprintf("%+v", want))
	}
}

// answer is all that Run can answer.
type answer struct {
	core  api.Core
	out   []api.Out
	place int
	err   api.Errno
}

func run(c api.Core, list ...api.Op) answer {
	after, out, place, err := tx.Run(c, list)
	return answer{after, out, place, err}
}

// byHand: what Run has to answer of a core that can be and of no more than 16, by layer 11 alone.
func byHand(c api.Core, list ...api.Op) answer {
	now := answer{core: c}
	for at, o := range list {
		after, out, err := core.Do(now.core, o)
		if err != ok {
			return answer{place: at, err: err}
		}
		now.core, now.out = after, slices.Concat(now.out, out)
	}
	return now
}

// refused: that this place is refused with this error, and nothing stands beside it.
func refused(t *testing.T, what string, a answer, place int, err api.Errno) {
	t.Helper()
	is(t, what, a, answer{place: place, err: err})
}

// done: the core behind a list that has to be done.
func done(t *testing.T, what string, a answer) api.Core {
	t.Helper()
	if a.err != ok || a.place != 0 {
		t.Fatalf("%s: answers %d at %d", what, a.err, a.place)
	}
	return a.core
}

// told: what is handed out, as a short text: connection, subscription, tag, queue, body, + if it was handed out before, k if it is retained.
func told(out []api.Out) string {
	var list []string
	for _, o := range out {
		s := fmt.Sprintf("%d/%d#%d %s:%s", o.Conn, o.Sub, o.Tag, o.Queue, o.Msg.Body)
		if o.Again {
			s += "+"
		}
		if o.Kept {
			s += "k"
		}
		list = append(list, s)
	}
	return strings.Join(list, ", ")
}

// waits: the bodies of what waits in a core's queue of this name.
func waits(c api.Core, name string) string {
	var list []string
	for _, q := range c.Queues {
		for _, i := range q.Items {
			if q.Name == name {
				list = append(list, i.Msg.Body)
			}
		}
	}
	return strings.Join(list, " ")
}

// one: one of a list.
func one[T any](r *rand.Rand, list ...T) T {
	return list[r.Intn(len(list))]
}

// someOp: an operation, mostly one that finds what it is for.
func someOp(r *rand.Rand, c api.Core, n int) api.Op {
	o := api.Op{
		Kind: one(r, publish, publish, publish, publish, ack, ack, nack, nack, 1+r.Intn(14)),
		Conn: r.Intn(3), Sub: r.Intn(3), N: 1 + r.Intn(3), Queue: one(r, "a", "b", "c", "d"),
		Durable: r.Intn(2) == 0, Auto: r.Intn(2) == 0, Keep: r.Intn(4) == 0,
	}
	switch o.Kind {
	case publish:
		o.Queue = one(r, "", o.Queue)
		o.Msg = rich(one(r, "n.o", "n.p", "x", "k", "y.z"), fmt.Sprint("m", n))
		o.Text = one(r, "", "", "", "me", "you")
	case bind, unbind:
		o.Text = one(r, "#", "n.*", "x", "k.#")
	case release, forget:
		o.Text = one(r, "me", "you", "she")
	case ack, nack:
		for _, q := range c.Queues {
			if len(q.Held) > 0 && r.Intn(2) == 0 {
				h := one(r, q.Held...)
				o.Queue, o.Conn, o.N = q.Name, h.Conn, h.Tag
			}
		}
	}
	return o
}

// someList: so many operations, each made for the core that is there behind those ahead of it; one in so many is refused.
func someList(r *rand.Rand, c api.Core, n, seldom int) []api.Op {
	var list []api.Op
	for len(list) < n {
		o := someOp(r, c, len(list))
		after, _, err := core.Do(c, o)
		if err == ok {
			c = after
		} else if r.Intn(seldom) > 0 {
			continue
		}
		list = append(list, o)
	}
	return list
}

// someCore: a core that can be, somewhere on the way from the base.
func someCore(r *rand.Rand) api.Core {
	c := base()
	for n := range r.Intn(30) {
		if after, _, err := core.Do(c, someOp(r, c, 100+n)); err == ok {
			c = after
		}
	}
	return c
}
