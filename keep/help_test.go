package keep_test

import (
	"bytes"
	"fmt"
	"math"
	"math/rand"
	"reflect"
	"slices"
	"strings"
	"testing"

	"trivet/api"
	"trivet/core"
	"trivet/drum"
	"trivet/image"
	"trivet/keep"
	"trivet/pair"
	"trivet/tx"
)

// The exact signatures: the test isn't built if one is another.
var (
	_ func(*drum.Drum) (*keep.Keep, api.Errno)                = keep.Open
	_ func(*keep.Keep, ...api.Op) ([]api.Out, int, api.Errno) = (*keep.Keep).Do
	_ func(*keep.Keep) api.Errno                              = (*keep.Keep).Save
	_ func(*keep.Keep) api.Core                               = (*keep.Keep).Core
	_ func(*keep.Keep) int                                    = (*keep.Keep).Count
)

// The document's numbers, not the program's.
const (
	ok       = api.Errno(0)
	errArg   = api.Errno(1)
	errNil   = api.Errno(2)
	errLong  = api.Errno(3)
	errForm  = api.Errno(11)
	errSum   = api.Errno(12)
	errDown  = api.Errno(20)
	errFull  = api.Errno(22)
	errTopic = api.Errno(30)
	errName  = api.Errno(31)
	errThere = api.Errno(32)
	errNone  = api.Errno(33)
	errRoom  = api.Errno(34)
	errDeep  = api.Errno(35)
	maxTx    = 16
	maxNum   = 1 << 40
	most     = 65536 // bytes of a record
	size     = 256   // bytes of a page
	head     = 12    // bytes ahead of a record's own, and of a snapshot's
)

const (
	declare     = 1
	remove      = 2
	bind        = 3
	unbind      = 4
	publish     = 5
	release     = 6
	forget      = 7
	subscribe   = 8
	unsubscribe = 9
	get         = 10
	ack         = 11
	nack        = 12
	detach      = 13
	tick        = 14
)

// lost is the record that tells that the power had gone.
const lost = "0;"

// rich: a message with all that one can have.
func rich(topic, body string, durable bool) api.Msg {
	return api.Msg{Topic: topic, Body: body, Durable: durable, Props: []api.Prop{
		{Name: "a", Value: api.Value{Kind: 1, Num: math.MinInt}},
		{Name: "c", Value: api.Value{Kind: 3, Text: body}},
		{Name: "e", Value: api.Value{Kind: 4, Real: math.NaN()}},
	}}
}

// hard, soft: a publish to a queue of what lasts, and of what doesn't.
func hard(queue, body string) api.Op {
	return api.Op{Kind: publish, Queue: queue, Msg: api.Msg{Topic: "t", Body: body, Durable: true}}
}

func soft(queue, body string) api.Op {
	return api.Op{Kind: publish, Queue: queue, Msg: api.Msg{Topic: "t", Body: body}}
}

// later: so many ticks.
func later(n int) api.Op {
	return api.Op{Kind: tick, N: n}
}

// times: a list of the same operation, so many times.
func times(n int, o api.Op) []api.Op {
	return slices.Repeat([]api.Op{o}, n)
}

// start: operations behind which there is some of all, and much that doesn't outlive a loss of power: a lasts, b doesn't; of a's messages one is held, and of those that wait one doesn't last.
func start() []api.Op {
	return []api.Op{
		{Kind: declare, Queue: "a", Durable: true, N: 8},
		{Kind: declare, Queue: "b", N: 2},
		{Kind: bind, Queue: "a", Text: "n.*"},
		{Kind: bind, Queue: "b", Text: "#"},
		{Kind: subscribe, Conn: 1, Sub: 4, Queue: "a", N: 1},
		hard("a", "one"), hard("a", "two"), soft("a", "three"),
		{Kind: publish, Msg: rich("k", "kept", false), Keep: true, Text: "me", N: 7},
		later(5),
	}
}

// settled: operations behind which there is something, all of which outlives a loss of power.
func settled() []api.Op {
	return []api.Op{{Kind: declare, Queue: "a", Durable: true, N: 8}, {Kind: bind, Queue: "a", Text: "#"}, hard("a", "one"), later(3)}
}

// padded: an operation that leaves the core, if it has no queue or is past its first tick, and whose bytes, as a record by itself, are so many.
func padded(t *testing.T, n int) api.Op {
	t.Helper()
	for body := range 1025 {
		o := soft("", strings.Repeat("x", body))
		o.Msg.Until = 1
		if len(opBytes(t, o)) == n {
			return o
		}
	}
	t.Fatalf("no record of %d bytes", n)
	return api.Op{}
}

// opBytes: operations' bytes.
func opBytes(t *testing.T, list ...api.Op) []byte {
	t.Helper()
	b, err := image.Ops(list)
	fine(t, "Ops", err)
	return b
}

// coreBytes: a core's bytes.
func coreBytes(t *testing.T, c api.Core) []byte {
	t.Helper()
	b, err := image.Encode(c)
	fine(t, "Encode", err)
	return b
}

// behind: the core behind operations, done as one.
func behind(t *testing.T, c api.Core, list ...api.Op) api.Core {
	t.Helper()
	after, _, at, err := tx.Run(c, list)
	if err != ok {
		t.Fatalf("Run of %+v: %d at %d", list, err, at)
	}
	return after
}

// left: what outlives a loss of power.
func left(t *testing.T, c api.Core) api.Core {
	t.Helper()
	l, err := core.Strip(c)
	fine(t, "Strip", err)
	return l
}

// fine: that there is no error.
func fine(t *testing.T, what string, err api.Errno) {
	t.Helper()
	if err != ok {
		t.Fatalf("%s: error %d", what, err)
	}
}

// all: the bytes of a drum whose power is on.
func all(t *testing.T, d *drum.Drum) []byte {
	t.Helper()
	var b []byte
	for at := range d.Pages() {
		page, err := d.Read(at)
		fine(t, "Read", err)
		b = append(b, page...)
	}
	return b
}

// made: a drum of these bytes; and they are safe.
func made(t *testing.T, b []byte) *drum.Drum {
	t.Helper()
	d := drum.New(len(b) / size)
	for at := range d.Pages() {
		fine(t, "Write", d.Write(at, b[at*size:(at+1)*size]))
	}
	fine(t, "Flush", d.Flush())
	return d
}

// laid: a drum with a snapshot (unless it is nil) and records of any bytes, by layer 5's own hand.
func laid(t *testing.T, pages int, snapshot []byte, records ...[]byte) *drum.Drum {
	t.Helper()
	d := drum.New(pages)
	p, _, _, err := pair.Open(d)
	fine(t, "layer 5's Open", err)
	if snapshot != nil {
		fine(t, "layer 5's Save", p.Save(snapshot))
	}
	for _, r := range records {
		fine(t, "layer 5's Append", p.Append(r))
	}
	return d
}

// found: what layer 5 finds on a drum.
func found(t *testing.T, d *drum.Drum) ([]byte, [][]byte) {
	t.Helper()
	_, snapshot, records, err := pair.Open(d)
	fine(t, "layer 5's Open", err)
	return snapshot, records
}

// half: how many pages a half of a drum has.
func half(pages int) int {
	return (pages - 1) / 2
}

// takes: how many pages a snapshot of so many bytes takes.
func takes(n int) int {
	return (head + n + size - 1) / size
}

// opened: the Keep of a drum that has to open.
func opened(t *testing.T, d *drum.Drum) *keep.Keep {
	t.Helper()
	k, err := keep.Open(d)
	if err != ok || k == nil {
		t.Fatalf("Open: %v, error %d", k, err)
	}
	return k
}

// finds: that a drum opens with just this core and so many records.
func finds(t *testing.T, what string, d *drum.Drum, c api.Core, count int) *keep.Keep {
	t.Helper()
	k := opened(t, d)
	holds(t, what, k, c, count)
	return k
}

// holds: that a Keep has just this core and so many records.
func holds(t *testing.T, what string, k *keep.Keep, c api.Core, count int) {
	t.Helper()
	is(t, what+": the core", k.Core(), c)
	is(t, what+": Count", k.Count(), count)
}

// refused: that a drum opens with this error and nothing beside it, and without a raw operation.
func refused(t *testing.T, what string, d *drum.Drum, want api.Errno) {
	t.Helper()
	ops := d.Ops()
	if k, err := keep.Open(d); err != want || k != nil {
		t.Errorf("%s: Open: %v, error %d, not %d", what, k, err, want)
	}
	is(t, what+": raw operations", d.Ops(), ops)
}

// answer is all that Do can answer.
type answer struct {
	out []api.Out
	at  int
	err api.Errno
}

func do(k *keep.Keep, list ...api.Op) answer {
	out, at, err := k.Do(list...)
	return answer{out, at, err}
}

// done: operations that have to be done.
func done(t *testing.T, k *keep.Keep, list ...api.Op) []api.Out {
	t.Helper()
	a := do(k, list...)
	if a.err != ok || a.at != 0 {
		t.Fatalf("Do of %+v: %d at %d", list, a.err, a.at)
	}
	return a.out
}

// alike: whether two values are the same, floats bit by bit; nil and empty lists are the same.
func alike(a, b reflect.Value) bool {
	switch a.Kind() {
	case reflect.Float64:
		return math.Float64bits(a.Float()) == math.Float64bits(b.Float())
	case reflect.Slice:
		for at := range a.Len() {
			if a.Len() != b.Len() || !alike(a.Index(at), b.Index(at)) {
				return false
			}
		}
		return a.Len() == b.Len()
	case reflect.Struct:
		for at := range a.NumField() {
			if !alike(a.Field(at), b.Field(at)) {
				return false
			}
		}
		return true
	}
	return a.Equal(b)
}

func same[T any](a, b T) bool {
	return alike(reflect.ValueOf(a), reflect.ValueOf(b))
}

// is: that something is just this.
func is[T any](t *testing.T, what string, got, want T) {
	t.Helper()
	if !same(got, want) {
		t.Errorf("%s: %.2000s\nnot %.2000s", what, fmt.Sprintf("%+v", got), fmt.Sprintf("%+v", want))
	}
}

// sameBytes: that a drum has just these bytes.
func sameBytes(t *testing.T, what string, d *drum.Drum, want []byte) {
	t.Helper()
	if got := all(t, d); !bytes.Equal(got, want) {
		for at := range got {
			if got[at] != want[at] {
				t.Errorf("%s: the drum is another one, from byte %d of page %d on", what, at%size, at/size)
				return
			}
		}
	}
}

// one: one of a list.
func one[T any](r *rand.Rand, list ...T) T {
	return list[r.Intn(len(list))]
}

// someOp: an operation that can be written down, mostly one that finds what it is for.
func someOp(r *rand.Rand, c api.Core, n int) api.Op {
	o := api.Op{
		Kind: one(r, publish, publish, publish, publish, ack, ack, nack, subscribe, declare, 1+r.Intn(14)),
		Conn: r.Intn(3), Sub: r.Intn(3), N: 1 + r.Intn(3), Queue: one(r, "a", "b", "c", "d"), Auto: r.Intn(3) == 0,
	}
	switch o.Kind {
	case declare:
		o.Durable, o.N = o.Queue < "c", 3
	case publish:
		o.Queue, o.Keep = one(r, "", o.Queue), r.Intn(6) == 0
		o.Msg = rich(one(r, "n.o", "n.p", "x", "k"), fmt.Sprint("m", n), r.Intn(3) > 0)
		o.Msg.Until = one(r, 0, 0, 0, c.Now+2)
		o.Text = one(r, "", "", "", "me", "you")
	case bind, unbind:
		o.Text, o.Keep = one(r, "#", "n.*", "x", "k.#"), r.Intn(2) == 0
	case release, forget:
		o.Text = one(r, "me", "you", "she")
	case ack, nack:
		for _, q := range c.Queues {
			if len(q.Held) > 0 && r.Intn(2) == 0 {
				h := one(r, q.Held...)
				o.Queue, o.Conn, o.N = q.Name, h.Conn, h.Tag
			}
		}
	}
	return o
}

// someList: so many operations, each made for the core that is there behind those ahead of it; one in so many is refused.
func someList(r *rand.Rand, c api.Core, n, seldom int) []api.Op {
	var list []api.Op
	for len(list) < n {
		o := someOp(r, c, r.Intn(1000))
		after, _, err := core.Do(c, o)
		if err == ok {
			c = after
		} else if r.Intn(seldom) > 0 {
			continue
		}
		list = append(list, o)
	}
	return list
}
