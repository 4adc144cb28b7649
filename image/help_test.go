package image_test

import (
	"fmt"
	"math"
	"math/rand"
	"reflect"
	"strings"
	"testing"

	"trivet/api"
	"trivet/core"
	"trivet/image"
)

// The exact signatures: the test isn't built if one is another.
var (
	_ func(api.Op) bool                  = image.Valid
	_ func([]api.Op) ([]byte, api.Errno) = image.Ops
	_ func([]byte) ([]api.Op, api.Errno) = image.ReadOps
	_ func(api.Core) ([]byte, api.Errno) = image.Encode
	_ func([]byte) (api.Core, api.Errno) = image.Decode
)

// The document's numbers, not the program's.
const (
	ok      = api.Errno(0)
	errArg  = api.Errno(1)
	errForm = api.Errno(11)
	maxNum  = 1 << 40
	publish = 5
	tick    = 14
)

var (
	// What is no kind of an operation, no connection's number, no other number, no window, no packet.
	kindless   = []int{0, 15, 16, -1, -5, 99, 256 + publish, 1<<32 + publish, math.MinInt, math.MaxInt}
	connless   = []int{-1, 8, 9, -8, 1 << 32, math.MinInt, math.MaxInt}
	numless    = []int{-1, maxNum + 1, -maxNum, 2 * maxNum, math.MinInt, math.MaxInt}
	windowless = []int{0, 33, -1, math.MinInt, math.MaxInt}
	packetless = []int{0, 65536, -1, math.MinInt, math.MaxInt}
	// What is no name, no topic, no pattern.
	nameless    = []string{"", "A", "a.b", "a b", "*", "a\xff", "a\x00", strings.Repeat("a", 17)}
	topicless   = []string{"", "A", "a.", ".a", "a..b", "a.*", "#", "a\xff", "a.b.c.d.e.f.g.h.i", strings.Repeat("a", 17), strings.Repeat("a.", 1<<10)}
	patternless = []string{"", "A", "a.", "#.a", "a*", "**", "a.b.c.d.e.f.g.h.#", strings.Repeat("a", 17)}
)

// rich: a durable message with all that one can have.
func rich(topic, body string) api.Msg {
	return api.Msg{Topic: topic, Body: body, Durable: true, Until: 1000, Props: []api.Prop{
		{Name: "a", Value: api.Value{Kind: 1, Num: math.MinInt}},
		{Name: "b", Value: api.Value{Kind: 2, Num: 1}},
		{Name: "c", Value: api.Value{Kind: 3, Text: body}},
		{Name: "d", Value: api.Value{Kind: 4, Real: math.Copysign(0, -1)}},
		{Name: "e", Value: api.Value{Kind: 4, Real: math.NaN()}},
	}}
}

// props: so many properties.
func props(n int) []api.Prop {
	var list []api.Prop
	for at := range n {
		list = append(list, api.Prop{Name: fmt.Sprintf("p%02d", at), Value: api.Value{Kind: 1, Num: at}})
	}
	return list
}

// rightMsgs: messages that can be and have a body, at their edges.
func rightMsgs() map[string]api.Msg {
	list := map[string]api.Msg{
		"a plain one":               {Topic: "a", Body: "x"},
		"all of it":                 rich("a.b", "x"),
		"a body of 1024":            {Topic: "a", Body: strings.Repeat("\xff", 1024)},
		"a body like bytes of ours": {Topic: "a", Body: "1;0:,2:i7,;:,-\x00\n"},
		"a topic of 64":             {Topic: strings.Repeat("abcdefg.", 7) + "abcdefgh", Body: "x"},
		"16 properties":             {Topic: "a", Body: "x", Props: props(16)},
		"an empty list":             {Topic: "a", Body: "x", Props: []api.Prop{}},
		"durable":                   {Topic: "a", Body: "x", Durable: true},
	}
	for _, n := range []int{0, 1, maxNum - 1, maxNum} {
		list[fmt.Sprint("Until ", n)] = api.Msg{Topic: "a", Body: "x", Until: n}
	}
	for what, v := range map[string]api.Value{
		"the greatest number": {Kind: 1, Num: math.MaxInt}, "false": {Kind: 2}, "true": {Kind: 2, Num: 1},
		"no text": {Kind: 3}, "a text of 256": {Kind: 3, Text: strings.Repeat(",", 256)},
		"a fraction": {Kind: 4, Real: 0.1}, "the float 0": {Kind: 4}, "the least float": {Kind: 4, Real: math.Inf(-1)},
		"the smallest float": {Kind: 4, Real: math.SmallestNonzeroFloat64},
	} {
		list["a property: "+what] = api.Msg{Topic: "a", Body: "x", Props: []api.Prop{{Name: "a", Value: v}}}
	}
	return list
}

// wrongMsgs: messages that can't be.
func wrongMsgs() map[string]api.Msg {
	list := map[string]api.Msg{
		"a body of 1025":     {Topic: "a", Body: strings.Repeat("x", 1025)},
		"no property's name": {Topic: "a", Body: "x", Props: []api.Prop{{Value: api.Value{Kind: 1}}}},
		"a name twice":       {Topic: "a", Body: "x", Props: append(props(1), props(1)...)},
		"names that fall":    {Topic: "a", Body: "x", Props: append(props(2)[1:], props(1)...)},
		"17 properties":      {Topic: "a", Body: "x", Props: props(17)},
	}
	for _, s := range topicless {
		list[fmt.Sprintf("the topic %.20q", s)] = api.Msg{Topic: s, Body: "x"}
	}
	for _, n := range numless {
		list[fmt.Sprint("Until ", n)] = api.Msg{Topic: "a", Body: "x", Until: n}
	}
	for what, v := range map[string]api.Value{
		"of no kind": {}, "of kind 5": {Kind: 5}, "the truth 2": {Kind: 2, Num: 2},
		"a text of 257": {Kind: 3, Text: strings.Repeat("x", 257)},
	} {
		list["a property "+what] = api.Msg{Topic: "a", Body: "x", Props: []api.Prop{{Name: "a", Value: v}}}
	}
	return list
}

// blurredMsgs: messages that can't be, of which the bytes would be those of another one, that can be.
func blurredMsgs() map[string]api.Msg {
	list := map[string]api.Msg{}
	for what, v := range map[string]api.Value{
		"another NaN":          {Kind: 4, Real: math.Float64frombits(0x7ff8000000000002)},
		"a NaN below 0":        {Kind: 4, Real: math.Float64frombits(0xfff8000000000001)},
		"a number and a text":  {Kind: 1, Num: 1, Text: "x"},
		"a text and a number":  {Kind: 3, Num: 1, Text: "x"},
		"a truth and a -0":     {Kind: 2, Num: 1, Real: math.Copysign(0, -1)},
		"a float and a number": {Kind: 4, Num: 1, Real: 0.5},
	} {
		list["a property: "+what] = api.Msg{Topic: "a", Body: "x", Props: []api.Prop{{Name: "a", Value: v}}}
	}
	return list
}

// item: an item with all that one can have.
func item(seq int, body string) api.Item {
	return api.Item{Seq: seq, Again: seq%2 == 0, Msg: rich("a.b", body)}
}

// base: a core that can be, with some of all, in which no two numbers that stand near one another are the same.
func base() api.Core {
	a := api.Queue{Name: "a", Durable: true, Depth: 6, Seq: 9, Tag: 5, Items: []api.Item{item(3, "three"), item(6, "six")}}
	a.Held = []api.Held{
		{Tag: 2, Conn: 1, Sub: 4, Item: item(4, "four")},
		{Tag: 3, Conn: 7, Sub: maxNum, Item: item(8, "eight")},
		{Tag: 5, Conn: 0, Sub: 7, Item: item(1, "")},
	}
	b := api.Queue{Name: "b", Depth: 4, Seq: 3, Tag: 2, Items: []api.Item{{Seq: 2, Msg: api.Msg{Topic: "x"}}}}
	b.Held = []api.Held{{Tag: 1, Conn: 6, Sub: 0, Item: api.Item{Seq: 1, Msg: api.Msg{Topic: "y", Body: "b-one"}}}}
	return api.Core{
		Now:    50,
		Queues: []api.Queue{a, b, {Name: "c", Durable: true, Depth: 64, Seq: maxNum, Tag: maxNum - 1}},
		Binds:  []api.Bind{{Queue: "a", Pattern: "#"}, {Queue: "a", Pattern: "n.*"}, {Queue: "b", Pattern: "full"}},
		Subs: []api.Sub{
			{Conn: 1, Sub: 4, Queue: "a", Window: 5},
			{Conn: 1, Sub: 9, Queue: "c", Window: 32, Auto: true},
			{Conn: 7, Sub: maxNum, Queue: "b", Window: 1},
		},
		Kept:    []api.Msg{rich("k", "kept"), {Topic: "l", Body: "plain"}, rich("z", "last")},
		Clients: []api.Client{{Name: "me", Packets: []int{1, 7, 65535}}, {Name: "you", Packets: []int{300}}},
	}
}

// with: the base, changed.
func with(change func(c *api.Core)) api.Core {
	c := base()
	change(&c)
	return c
}

// crowd: as many of all as there may be: 16 queues of 64, each with 32 waiting and 32 held, 64 binds, 32 subscriptions, 16 retained, 16 clients of 32 packets.
func crowd(m func(n int) api.Msg) api.Core {
	c := api.Core{Now: maxNum}
	for n := range 16 {
		q := api.Queue{Name: fmt.Sprintf("q%02d", n), Depth: 64, Seq: maxNum, Tag: maxNum}
		for at := range 32 {
			q.Items = append(q.Items, api.Item{Seq: maxNum - 64 + 2*at, Msg: m(at)})
			q.Held = append(q.Held, api.Held{Tag: maxNum - 31 + at, Conn: at % 8, Sub: at, Item: api.Item{Seq: maxNum - 1 - 2*at, Again: true, Msg: m(at)}})
		}
		c.Queues = append(c.Queues, q)
		client := api.Client{Name: fmt.Sprintf("c%02d", n)}
		for at := range 32 {
			client.Packets = append(client.Packets, 65504+at)
		}
		for at := range 4 {
			c.Binds = append(c.Binds, api.Bind{Queue: q.Name, Pattern: fmt.Sprintf("w%d.#", at)})
		}
		kept := m(n)
		kept.Topic, kept.Body = fmt.Sprintf("k%02d", n), kept.Body+"x"
		c.Kept, c.Clients = append(c.Kept, kept), append(c.Clients, client)
	}
	for n := range 32 {
		c.Subs = append(c.Subs, api.Sub{Conn: n / 4, Sub: n % 4, Queue: "q00", Window: 1 + n, Auto: n%3 == 0})
	}
	return c
}

// small: a message for crowds.
func small(n int) api.Msg {
	return api.Msg{Topic: "t", Body: fmt.Sprint(n), Durable: n%2 == 0, Until: n}
}

// alike: whether two values are the same, floats bit by bit; nil and empty lists are the same.
func alike(a, b reflect.Value) bool {
	switch a.Kind() {
	case reflect.Float64:
		return math.Float64bits(a.Float()) == math.Float64bits(b.Float())
	case reflect.Slice:
		for at := range a.Len() {
			if a.Len() != b.Len() || !alike(a.Index(at), b.Index(at)) {
				return false
			}
		}
		return a.Len() == b.Len()
	case reflect.Struct:
		for at := range a.NumField() {
			if !alike(a.Field(at), b.Field(at)) {
				return false
			}
		}
		return true
	}
	return a.Equal(b)
}

func same[T any](a, b T) bool {
	return alike(reflect.ValueOf(a), reflect.ValueOf(b))
}

// is: that something is just this.
func is[T any](t *testing.T, what string, got, want T) {
	t.Helper()
	if !same(got, want) {
		t.Errorf("%s: %.2000s\nnot %.2000s", what, fmt.Sprintf("%+v", got), fmt.Sprintf("%+v", want))
	}
}

// answer is what a call that writes, or one that reads, can answer.
type answer[T any] struct {
	what T
	err  api.Errno
}

// got: a call's answer.
func got[T any](what T, err api.Errno) answer[T] {
	return answer[T]{what, err}
}

// refused: that the error is this one, and nothing stands beside it.
func refused[T any](t *testing.T, what string, a answer[T], want api.Errno) {
	t.Helper()
	is(t, what, a, answer[T]{err: want})
}

// one: one of a list.
func one[T any](r *rand.Rand, list ...T) T {
	return list[r.Intn(len(list))]
}

// someMsg: a message that can be.
func someMsg(r *rand.Rand) api.Msg {
	m := api.Msg{Topic: one(r, "n.o", "n.p", "x", "k", "y.z"), Durable: r.Intn(2) == 0, Until: one(r, 0, 0, 0, 60, 1000, maxNum)}
	m.Body = one(r, "", "x", ",", "1;2:", "\x00\xff", strings.Repeat("y", r.Intn(1025)))
	if r.Intn(2) == 0 {
		m.Props = rich("a", one(r, "", ":", "5:x,")).Props[r.Intn(5):]
	}
	return m
}

// someOp: an operation that can be written down, and often done.
func someOp(r *rand.Rand) api.Op {
	o := api.Op{
		Kind: one(r, publish, publish, publish, 1, 3, 8, 10, 1+r.Intn(14)),
		Conn: r.Intn(8), Sub: one(r, 0, 1, 2, maxNum), N: one(r, 1, 2, 3, 4, 32), Queue: one(r, "a", "b", "c", "d"),
		Durable: r.Intn(2) == 0, Auto: r.Intn(2) == 0, Keep: r.Intn(3) == 0,
	}
	switch o.Kind {
	case publish:
		o.Queue, o.Msg, o.Text = one(r, "", o.Queue), someMsg(r), one(r, "", "", "me", "you", "she")
	case 3, 4:
		o.Text = one(r, "#", "n.*", "x", "k.#")
	case 6, 7:
		o.Text = one(r, "me", "you", "she")
	}
	return o
}

// someList: so many operations.
func someList(r *rand.Rand, n int) []api.Op {
	var list []api.Op
	for range n {
		list = append(list, someOp(r))
	}
	return list
}

// someCore: a core that can be, somewhere on the way from one of zeros or from the base.
func someCore(r *rand.Rand) api.Core {
	c := one(r, api.Core{}, base())
	for range r.Intn(60) {
		if after, _, err := core.Do(c, someOp(r)); err == ok {
			c = after
		}
	}
	return c
}
