package queue_test

import (
	"cmp"
	"fmt"
	"math"
	"math/rand"
	"slices"
	"strings"
	"testing"

	"trivet/api"
	"trivet/prop"
	"trivet/queue"
	"trivet/topic"
)

// The exact signatures: the test isn't built if one is another.
var (
	_ func(api.Msg) bool                                                    = queue.Message
	_ func(string, bool, int) (api.Queue, api.Errno)                        = queue.New
	_ func(api.Queue) bool                                                  = queue.Good
	_ func(api.Queue) api.Queue                                             = queue.Copy
	_ func(api.Queue) int                                                   = queue.Len
	_ func(api.Queue, int, int) int                                         = queue.Holds
	_ func(api.Queue, api.Msg) (api.Queue, api.Errno)                       = queue.Push
	_ func(api.Queue, int, int, bool) (api.Queue, int, api.Item, api.Errno) = queue.Take
	_ func(api.Queue, int, int, bool) (api.Queue, api.Errno)                = queue.Settle
	_ func(api.Queue, int, int) (api.Queue, api.Errno)                      = queue.Release
	_ func(api.Queue, int) (api.Queue, api.Errno)                           = queue.Expire
)

// The document's numbers, not the program's.
const (
	ok      = api.Errno(0)
	errArg  = api.Errno(1)
	errName = api.Errno(31)
	errNone = api.Errno(33)
	errDeep = api.Errno(35)
	errMsg  = api.Errno(36)
	maxNum  = 1 << 40
)

// What is no name.
var nameless = []string{"", "A", "a.b", "a b", "a/b", "*", "#", "ä", "a\xff", "a\x00", strings.Repeat("a", 17), strings.Repeat("a", 1<<16)}

// Messages that can't be.
var wrongMsgs = map[string]api.Msg{
	"no topic":            {},
	"a great letter":      {Topic: "A"},
	"a pattern of one":    {Topic: "a.*"},
	"a pattern of all":    {Topic: "a.#"},
	"an empty word":       {Topic: "a..b"},
	"too many words":      {Topic: "a.b.c.d.e.f.g.h.i"},
	"a word too long":     {Topic: strings.Repeat("a", 17)},
	"a body too long":     {Topic: "a", Body: strings.Repeat("x", 1025)},
	"a body far too long": {Topic: "a", Body: strings.Repeat("x", 1<<20)},
	"no property's name":  {Topic: "a", Props: []api.Prop{{Name: "", Value: api.Value{Kind: api.VInt}}}},
	"no kind":             {Topic: "a", Props: []api.Prop{{Name: "a"}}},
	"another truth":       {Topic: "a", Props: []api.Prop{{Name: "a", Value: api.Value{Kind: api.VBool, Num: 2}}}},
	"a text too long":     {Topic: "a", Props: []api.Prop{{Name: "a", Value: api.Value{Kind: api.VText, Text: strings.Repeat("x", 257)}}}},
	"names that fall":     {Topic: "a", Props: []api.Prop{{Name: "b", Value: api.Value{Kind: api.VInt}}, {Name: "a", Value: api.Value{Kind: api.VInt}}}},
	"a name twice":        {Topic: "a", Props: []api.Prop{{Name: "a", Value: api.Value{Kind: api.VInt}}, {Name: "a", Value: api.Value{Kind: api.VInt}}}},
	"17 properties":       {Topic: "a", Props: props(17)},
	"Until below 0":       {Topic: "a", Until: -1},
	"Until far below 0":   {Topic: "a", Until: math.MinInt},
	"Until beyond":        {Topic: "a", Until: maxNum + 1},
	"Until far beyond":    {Topic: "a", Until: math.MaxInt},
}

// Messages that can be, at their edges.
var rightMsgs = map[string]api.Msg{
	"a topic alone":     {Topic: "a"},
	"a long topic":      {Topic: strings.Repeat("1234567.", 7) + "12345678"},
	"1024 bytes":        {Topic: "a", Body: strings.Repeat("\xff", 1024)},
	"1023 bytes":        {Topic: "a", Body: strings.Repeat("\x00", 1023)},
	"16 properties":     {Topic: "a", Props: props(16)},
	"no property":       {Topic: "a", Props: []api.Prop{}},
	"a text of 256":     {Topic: "a", Props: []api.Prop{{Name: "a", Value: api.Value{Kind: api.VText, Text: strings.Repeat("x", 256)}}}},
	"Until 0":           {Topic: "a", Until: 0},
	"Until 1":           {Topic: "a", Until: 1},
	"Until 2^40":        {Topic: "a", Until: maxNum},
	"Until 2^40 - 1":    {Topic: "a", Until: maxNum - 1},
	"a durable one":     {Topic: "a.b.c", Durable: true},
	"all that there is": rich("all"),
}

// props: so many properties.
func props(n int) []api.Prop {
	var list []api.Prop
	for i := range n {
		list = append(list, api.Prop{Name: fmt.Sprintf("p%02d", i), Value: api.Value{Kind: api.VInt, Num: i}})
	}
	return list
}

// rich: a message with all that one can have.
func rich(body string) api.Msg {
	return api.Msg{Topic: "a.b", Body: body, Durable: true, Until: 77, Props: []api.Prop{
		{Name: "a", Value: api.Value{Kind: api.VInt, Num: math.MinInt}},
		{Name: "b", Value: api.Value{Kind: api.VBool, Num: 1}},
		{Name: "c", Value: api.Value{Kind: api.VText, Text: body}},
		{Name: "d", Value: api.Value{Kind: api.VReal, Real: math.Copysign(0, -1)}},
		{Name: "e", Value: api.Value{Kind: api.VReal, Real: math.Float64frombits(0x7ff8000000000001)}},
		{Name: "f", Value: api.Value{Kind: api.VReal, Real: math.Inf(-1)}},
	}}
}

func item(seq int, body string) api.Item {
	return api.Item{Seq: seq, Msg: rich(body)}
}

// base: a queue that can be, with some that wait and some that are held, one of each handed out before.
func base() api.Queue {
	q := api.Queue{Name: "q", Durable: true, Depth: 6, Seq: 9, Tag: 5}
	q.Items = []api.Item{item(3, "three"), item(5, "five")}
	q.Items[0].Again = true
	q.Held = []api.Held{
		{Tag: 2, Conn: 1, Sub: 4, Item: item(4, "four")},
		{Tag: 3, Conn: 7, Sub: maxNum, Item: item(8, "eight")},
		{Tag: 5, Conn: 1, Sub: 7, Item: item(1, "one")},
	}
	q.Held[1].Item.Again = true
	return q
}

// Bit by bit: -0 isn't +0, and a NaN is itself; nil and empty lists are the same.
func sameProp(a, b api.Prop) bool {
	v, w := a.Value, b.Value
	return a.Name == b.Name && v.Kind == w.Kind && v.Num == w.Num && v.Text == w.Text && math.Float64bits(v.Real) == math.Float64bits(w.Real)
}

func sameMsg(a, b api.Msg) bool {
	return a.Topic == b.Topic && a.Body == b.Body && a.Durable == b.Durable && a.Until == b.Until && slices.EqualFunc(a.Props, b.Props, sameProp)
}

func sameItem(a, b api.Item) bool {
	return a.Seq == b.Seq && a.Again == b.Again && sameMsg(a.Msg, b.Msg)
}

func sameHeld(a, b api.Held) bool {
	return a.Tag == b.Tag && a.Conn == b.Conn && a.Sub == b.Sub && sameItem(a.Item, b.Item)
}

func sameQueue(a, b api.Queue) bool {
	return a.Name == b.Name && a.Durable == b.Durable && a.Depth == b.Depth && a.Seq == b.Seq && a.Tag == b.Tag &&
		slices.EqualFunc(a.Items, b.Items, sameItem) && slices.EqualFunc(a.Held, b.Held, sameHeld)
}

// is: that a queue is just this one.
func is(t *testing.T, what string, got, want api.Queue) {
	t.Helper()
	if !sameQueue(got, want) {
		t.Errorf("%s: %s\nnot %s", what, brief(got), brief(want))
	}
}

// brief: a queue as a short text.
func brief(q api.Queue) string {
	s := fmt.Sprintf("%q durable %t depth %d seq %d tag %d items", q.Name, q.Durable, q.Depth, q.Seq, q.Tag)
	for _, i := range q.Items {
		s += fmt.Sprintf(" %d:%t:%.8s", i.Seq, i.Again, i.Msg.Body)
	}
	s += " held"
	for _, h := range q.Held {
		s += fmt.Sprintf(" %d:%d:%d=%d:%t:%.8s", h.Tag, h.Conn, h.Sub, h.Item.Seq, h.Item.Again, h.Item.Msg.Body)
	}
	return s
}

// answer is all that a call can answer.
type answer struct {
	q    api.Queue
	tag  int
	item api.Item
	err  api.Errno
}

// refused: that an error is this, and all beside it zero.
func refused(t *testing.T, what string, a answer, want api.Errno) {
	t.Helper()
	if a.err != want {
		t.Errorf("%s: answers %d, not %d", what, a.err, want)
	}
	if !sameQueue(a.q, api.Queue{}) || a.tag != 0 || !sameItem(a.item, api.Item{}) {
		t.Errorf("%s: beside the error %d stands %s, %d, %+v", what, a.err, brief(a.q), a.tag, a.item)
	}
}

func push(q api.Queue, m api.Msg) answer {
	out, err := queue.Push(q, m)
	return answer{q: out, err: err}
}

func take(q api.Queue, conn, sub int, hold bool) answer {
	out, tag, i, err := queue.Take(q, conn, sub, hold)
	return answer{out, tag, i, err}
}

func settle(q api.Queue, conn, tag int, again bool) answer {
	out, err := queue.Settle(q, conn, tag, again)
	return answer{q: out, err: err}
}

func release(q api.Queue, conn, sub int) answer {
	out, err := queue.Release(q, conn, sub)
	return answer{q: out, err: err}
}

func expire(q api.Queue, now int) answer {
	out, err := queue.Expire(q, now)
	return answer{q: out, err: err}
}

// done: what a call answers that has to be OK.
func done(t *testing.T, what string, a answer) api.Queue {
	t.Helper()
	if a.err != ok {
		t.Fatalf("%s: answers %d", what, a.err)
	}
	return a.q
}

// made: a queue with these messages, by New and Push.
func made(t *testing.T, depth int, bodies ...string) api.Queue {
	t.Helper()
	q, err := queue.New("q", false, depth)
	if err != ok {
		t.Fatalf("New: %d", err)
	}
	for _, body := range bodies {
		q = done(t, "Push", push(q, rich(body)))
	}
	return q
}

// waits, holds: the bodies of what waits, with + behind those that were handed out before; of what is held.
func waits(q api.Queue) string {
	var list []string
	for _, i := range q.Items {
		body := i.Msg.Body
		if i.Again {
			body += "+"
		}
		list = append(list, body)
	}
	return strings.Join(list, " ")
}

func holds(q api.Queue) string {
	var list []string
	for _, h := range q.Held {
		list = append(list, fmt.Sprintf("%d:%s", h.Tag, h.Item.Msg.Body))
	}
	return strings.Join(list, " ")
}

// stands: that these wait, and these are held.
func stands(t *testing.T, what string, q api.Queue, waiting, held string) {
	t.Helper()
	if waits(q) != waiting || holds(q) != held {
		t.Errorf("%s: %q wait and %q are held, not %q and %q", what, waits(q), holds(q), waiting, held)
	}
	if !queue.Good(q) {
		t.Errorf("%s: the queue can't be: %s", what, brief(q))
	}
}

func TestP10_1_Examples(t *testing.T) {
	q := made(t, 3, "x", "y", "z")
	stands(t, "pushed", q, "x y z", "")
	a := take(q, 1, 4, true)
	if a.err != ok || a.tag != 1 || a.item.Msg.Body != "x" || a.item.Seq != 1 || a.item.Again {
		t.Errorf("the first Take: %+v", a)
	}
	b := take(a.q, 2, 5, true)
	if b.err != ok || b.tag != 2 || b.item.Msg.Body != "y" || b.item.Seq != 2 || b.item.Again {
		t.Errorf("the second Take: %+v", b)
	}
	stands(t, "taken", b.q, "z", "1:x 2:y")
	c := done(t, "Settle", settle(b.q, 1, 1, true))
	stands(t, "put back", c, "x+ z", "2:y")
	stands(t, "released", done(t, "Release", release(c, 2, -1)), "x+ y+ z", "")
	stands(t, "done with", done(t, "Settle", settle(b.q, 1, 1, false)), "z", "2:y")
}

func TestP10_1_Messages(t *testing.T) {
	for what, m := range rightMsgs {
		if !queue.Message(m) {
			t.Errorf("%s: can be", what)
		}
	}
	for what, m := range wrongMsgs {
		if queue.Message(m) {
			t.Errorf("%s: can't be", what)
		}
	}
}

func TestP10_1_New(t *testing.T) {
	for _, name := range []string{"q", "a-b_9", "-", "0", strings.Repeat("z", 16)} {
		for _, depth := range []int{1, 2, 63, 64} {
			for _, durable := range []bool{true, false} {
				q, err := queue.New(name, durable, depth)
				if err != ok || !queue.Good(q) || queue.Len(q) != 0 {
					t.Errorf("New(%q, %t, %d): %d", name, durable, depth, err)
				}
				is(t, "New", q, api.Queue{Name: name, Durable: durable, Depth: depth})
			}
		}
		for _, depth := range []int{0, 65, -1, math.MaxInt, math.MinInt} {
			q, err := queue.New(name, true, depth)
			refused(t, fmt.Sprint("New of depth ", depth), answer{q: q, err: err}, errArg)
		}
	}
	for _, name := range nameless {
		for _, depth := range []int{1, 64, 0, 65, -1} {
			q, err := queue.New(name, true, depth)
			refused(t, fmt.Sprintf("New of %.20q, depth %d", name, depth), answer{q: q, err: err}, errName)
		}
	}
}

// wrongQueues: queues that can't be, each for one cause.
func wrongQueues() map[string]api.Queue {
	list := map[string]api.Queue{"all zeros": {}}
	with := func(what string, change func(q *api.Queue)) {
		q := base()
		change(&q)
		list[what] = q
	}
	for _, name := range nameless {
		with(fmt.Sprintf("the name %.20q", name), func(q *api.Queue) { q.Name = name })
	}
	for _, n := range []int{0, 65, -1, math.MinInt, math.MaxInt, 4} {
		with(fmt.Sprint("depth ", n), func(q *api.Queue) { q.Depth = n })
	}
	for _, n := range []int{-1, maxNum + 1, math.MinInt, math.MaxInt, 0, 7} {
		with(fmt.Sprint("seq ", n), func(q *api.Queue) { q.Seq = n })
	}
	for _, n := range []int{-1, maxNum + 1, math.MinInt, math.MaxInt, 0, 4} {
		with(fmt.Sprint("tag ", n), func(q *api.Queue) { q.Tag = n })
	}
	for _, n := range []int{-1, maxNum + 1} {
		with(fmt.Sprint("seq without items ", n), func(q *api.Queue) { q.Seq, q.Items, q.Held = n, nil, nil })
		with(fmt.Sprint("tag without items ", n), func(q *api.Queue) { q.Tag, q.Items, q.Held = n, nil, nil })
	}
	with("seq below an item's", func(q *api.Queue) { q.Seq, q.Held = 4, nil })
	with("seq below a held item's", func(q *api.Queue) { q.Seq, q.Items = 7, nil })
	with("one too many that wait", func(q *api.Queue) { q.Items = append(q.Items, item(6, "6"), item(9, "9")) })
	with("one too many that are held", func(q *api.Queue) {
		q.Tag = 7
		q.Held = append(q.Held, api.Held{Tag: 6, Item: item(6, "6")}, api.Held{Tag: 7, Item: item(9, "9")})
	})
	with("numbers that fall", func(q *api.Queue) { q.Items[0], q.Items[1] = q.Items[1], q.Items[0] })
	with("a number twice among those that wait", func(q *api.Queue) { q.Items[1].Seq = 3 })
	with("tags that fall", func(q *api.Queue) { q.Held[0].Tag, q.Held[1].Tag = 3, 2 })
	with("tags that fall at the end", func(q *api.Queue) { q.Held[1].Tag, q.Held[2].Tag = 5, 4 })
	with("a tag twice", func(q *api.Queue) { q.Held[1].Tag = 2 })
	with("a number twice among those that are held", func(q *api.Queue) { q.Held[2].Item.Seq = 4 })
	with("a number that waits and is held", func(q *api.Queue) { q.Held[1].Item.Seq = 3 })
	with("a number that waits last and is held last", func(q *api.Queue) { q.Held[2].Item.Seq = 5 })
	for _, n := range []int{0, -1, math.MinInt, 10, maxNum, math.MaxInt} {
		with(fmt.Sprint("the only number ", n), func(q *api.Queue) { q.Items, q.Held = []api.Item{item(n, "x")}, nil })
		with(fmt.Sprint("the only held number ", n), func(q *api.Queue) { q.Items, q.Held = nil, q.Held[:1]; q.Held[0].Item.Seq = n })
		with(fmt.Sprint("the only tag ", n), func(q *api.Queue) { q.Held = q.Held[:1]; q.Held[0].Tag = n })
	}
	with("the tag beyond", func(q *api.Queue) { q.Held[2].Tag = 6 })
	for at := range 3 {
		for _, n := range []int{-1, 8, math.MinInt, math.MaxInt} {
			with(fmt.Sprint("conn ", n, " at ", at), func(q *api.Queue) { q.Held[at].Conn = n })
		}
		for _, n := range []int{-1, maxNum + 1, math.MinInt, math.MaxInt} {
			with(fmt.Sprint("sub ", n, " at ", at), func(q *api.Queue) { q.Held[at].Sub = n })
		}
	}
	for what, m := range wrongMsgs {
		for at := range 2 {
			with(fmt.Sprint(what, " waits at ", at), func(q *api.Queue) { q.Items[at].Msg = m })
		}
		for at := range 3 {
			with(fmt.Sprint(what, " is held at ", at), func(q *api.Queue) { q.Held[at].Item.Msg = m })
		}
	}
	return list
}

// rightQueues: queues that can be, at their edges.
func rightQueues() map[string]api.Queue {
	list := map[string]api.Queue{"the base": base()}
	with := func(what string, change func(q *api.Queue)) {
		q := base()
		change(&q)
		list[what] = q
	}
	with("16 bytes of a name", func(q *api.Queue) { q.Name = strings.Repeat("q", 16) })
	with("not durable", func(q *api.Queue) { q.Durable = false })
	with("just full", func(q *api.Queue) { q.Depth = 5 })
	with("64 deep", func(q *api.Queue) { q.Depth = 64 })
	with("seq just the greatest", func(q *api.Queue) { q.Seq = 8 })
	with("seq at the end", func(q *api.Queue) { q.Seq = maxNum })
	with("seq one below the end", func(q *api.Queue) { q.Seq = maxNum - 1 })
	with("tag at the end", func(q *api.Queue) { q.Tag = maxNum })
	with("tag one below the end", func(q *api.Queue) { q.Tag = maxNum - 1 })
	with("nothing waits", func(q *api.Queue) { q.Items = nil })
	with("nothing is held", func(q *api.Queue) { q.Held = nil })
	with("nothing is there", func(q *api.Queue) { q.Items, q.Held = []api.Item{}, []api.Held{} })
	with("no number was given", func(q *api.Queue) { q.Items, q.Held, q.Seq, q.Tag = nil, nil, 0, 0 })
	with("one deep, one waits", func(q *api.Queue) { q.Items, q.Held, q.Depth = q.Items[:1], nil, 1 })
	with("one deep, one is held", func(q *api.Queue) { q.Items, q.Held, q.Depth = nil, q.Held[:1], 1 })
	with("the first number and tag", func(q *api.Queue) {
		q.Items, q.Held = []api.Item{item(1, "x")}, []api.Held{{Tag: 1, Item: item(2, "y")}}
		q.Seq, q.Tag = 2, 1
	})
	with("the last numbers and tags", func(q *api.Queue) {
		q.Seq, q.Tag = maxNum, maxNum
		q.Items[1].Seq, q.Held[1].Item.Seq, q.Held[2].Tag = maxNum, maxNum-1, maxNum
	})
	for _, n := range []int{0, 7} {
		with(fmt.Sprint("conn ", n), func(q *api.Queue) { q.Held[0].Conn = n })
	}
	for _, n := range []int{0, maxNum} {
		with(fmt.Sprint("sub ", n), func(q *api.Queue) { q.Held[0].Sub = n })
	}
	for what, m := range rightMsgs {
		with(what+" waits", func(q *api.Queue) { q.Items[1].Msg = m })
		with(what+" is held", func(q *api.Queue) { q.Held[2].Item.Msg = m })
	}
	with("64 that wait or are held", func(q *api.Queue) {
		q.Items, q.Held, q.Seq, q.Tag, q.Depth = nil, nil, 64, 32, 64
		for n := range 32 {
			q.Items = append(q.Items, item(2*n+1, "odd"))
			q.Held = append(q.Held, api.Held{Tag: n + 1, Conn: n % 6, Sub: n, Item: item(64-2*n, "even")})
		}
	})
	return list
}

func TestP10_1_QueuesThatCanBe(t *testing.T) {
	for what, q := range rightQueues() {
		if !queue.Good(q) || !can(q) {
			t.Errorf("%s: can be", what)
			continue
		}
		// Nothing is held by connection 6, and nothing is over at 0.
		refused(t, what+": Settle of what isn't held", settle(q, 6, 1, true), errNone)
		is(t, what+": Release", done(t, what+": Release", release(q, 6, -1)), q)
		is(t, what+": Expire", done(t, what+": Expire", expire(q, 0)), q)
		is(t, what+": Copy", queue.Copy(q), q)
	}
}

func TestP10_1_QueuesThatCannotBe(t *testing.T) {
	for what, q := range wrongQueues() {
		if queue.Good(q) || can(q) {
			t.Errorf("%s: can't be", what)
		}
		for _, flag := range []bool{true, false} {
			for _, m := range []api.Msg{{Topic: "a"}, {}} {
				refused(t, what+": Push", push(q, m), errArg)
			}
			for _, conn := range []int{1, 7, 8, -1} {
				refused(t, what+": Take", take(q, conn, 4, flag), errArg)
				refused(t, what+": Settle", settle(q, conn, 2, flag), errArg)
				refused(t, what+": Settle of none", settle(q, conn, 99, flag), errArg)
				refused(t, what+": Release", release(q, conn, 4), errArg)
				refused(t, what+": Release of all", release(q, conn, -1), errArg)
			}
		}
		for _, now := range []int{-1, 0, 76, 77, maxNum} {
			refused(t, what+": Expire", expire(q, now), errArg)
		}
	}
}

// Copy, Len and Holds answer of any queue.
func TestP10_1_OfAnyQueue(t *testing.T) {
	all := rightQueues()
	for what, q := range wrongQueues() {
		all[what] = q
	}
	for what, q := range all {
		is(t, what+": Copy", queue.Copy(q), q)
		if n := queue.Len(q); n != len(q.Items)+len(q.Held) {
			t.Errorf("%s: Len is %d", what, n)
		}
		for _, conn := range []int{-1, 0, 1, 6, 7, 8, math.MaxInt, math.MinInt} {
			for _, sub := range []int{-1, 0, 4, 7, maxNum, maxNum + 1, math.MaxInt, math.MinInt} {
				want := 0
				for _, h := range q.Held {
					if h.Conn == conn && h.Sub == sub {
						want++
					}
				}
				if n := queue.Holds(q, conn, sub); n != want {
					t.Errorf("%s: Holds(%d, %d) is %d, not %d", what, conn, sub, n, want)
				}
			}
		}
	}
	q := base()
	q.Held[1].Conn, q.Held[1].Sub = 1, 4
	for _, c := range [][3]int{{1, 4, 2}, {1, 7, 1}, {4, 1, 0}, {7, 1, 0}, {1, -1, 0}, {7, maxNum, 0}} {
		if n := queue.Holds(q, c[0], c[1]); n != c[2] {
			t.Errorf("Holds(%d, %d) is %d, not %d", c[0], c[1], n, c[2])
		}
	}
}

func TestP10_1_Push(t *testing.T) {
	for what, m := range rightMsgs {
		want := base()
		want.Seq = 10
		want.Items = append(want.Items, api.Item{Seq: 10, Msg: m})
		is(t, what, done(t, what, push(base(), m)), want)
	}
	for what, m := range wrongMsgs {
		refused(t, what, push(base(), m), errMsg)
	}
	// A number is given behind the last one that was given, not behind the greatest that is there.
	q := base()
	q.Items, q.Held, q.Seq = nil, nil, 20
	if q = done(t, "Push", push(q, rich("x"))); q.Seq != 21 || q.Items[0].Seq != 21 {
		t.Errorf("the number behind 20 is %s", brief(q))
	}
}

func TestP10_1_PushToTheLastNumber(t *testing.T) {
	q := base()
	q.Seq = maxNum - 1
	q = done(t, "Push", push(q, rich("last")))
	if q.Seq != maxNum || q.Items[2].Seq != maxNum || !queue.Good(q) {
		t.Errorf("the last number: %s", brief(q))
	}
	refused(t, "behind the last number, and full", push(q, rich("more")), errArg)
	refused(t, "behind the last number, and full, no message", push(q, api.Msg{}), errArg)
	q.Depth = 7
	refused(t, "behind the last number", push(q, rich("more")), errArg)
	refused(t, "behind the last number, no message", push(q, api.Msg{}), errArg)
	// All else goes on.
	a := take(q, 0, 0, true)
	if done(t, "Take", a); a.tag != 6 || a.item.Msg.Body != "three" || !a.item.Again {
		t.Errorf("Take behind the last number: %+v", a)
	}
}

func TestP10_1_PushUntilFull(t *testing.T) {
	for _, depth := range []int{1, 2, 63, 64} {
		q := made(t, depth)
		for n := range depth {
			q = done(t, "Push", push(q, rich(fmt.Sprint(n))))
			if queue.Len(q) != n+1 || len(q.Items) != n+1 || !queue.Good(q) {
				t.Fatalf("depth %d, pushed %d: %s", depth, n+1, brief(q))
			}
		}
		refused(t, "full of what waits", push(q, rich("more")), errDeep)
		refused(t, "full, and no message", push(q, api.Msg{}), errMsg)
		// What is held counts.
		for n := range depth {
			a := take(q, n%8, n, true)
			if q = done(t, "Take", a); a.tag != n+1 || a.item.Msg.Body != fmt.Sprint(n) {
				t.Fatalf("Take %d: %d, %q", n, a.tag, a.item.Msg.Body)
			}
			refused(t, "full of what is held", push(q, rich("more")), errDeep)
		}
		refused(t, "all is held", take(q, 0, 0, true), errNone)
		q = done(t, "Settle", settle(q, 0, 1, false))
		q = done(t, "Push", push(q, rich("more")))
		if q.Seq != depth+1 || !queue.Good(q) {
			t.Errorf("Push in the place of what is done with: %s", brief(q))
		}
		refused(t, "full again", push(q, rich("more")), errDeep)
	}
}

func TestP10_1_Take(t *testing.T) {
	for _, conn := range []int{0, 1, 7} {
		for _, sub := range []int{0, 4, maxNum - 1, maxNum} {
			want := base()
			want.Items, want.Tag = want.Items[1:], 6
			first := base().Items[0]
			want.Held = append(want.Held, api.Held{Tag: 6, Conn: conn, Sub: sub, Item: first})
			a := take(base(), conn, sub, true)
			is(t, "Take held", done(t, "Take held", a), want)
			if a.tag != 6 || !sameItem(a.item, first) {
				t.Errorf("Take held: %d, %+v", a.tag, a.item)
			}
			want = base()
			want.Items = want.Items[1:]
			a = take(base(), conn, sub, false)
			is(t, "Take", done(t, "Take", a), want)
			if a.tag != 0 || !sameItem(a.item, first) {
				t.Errorf("Take: %d, %+v", a.tag, a.item)
			}
		}
	}
	none := base()
	none.Items = nil
	for _, hold := range []bool{true, false} {
		refused(t, "nothing waits", take(none, 0, 0, hold), errNone)
		for _, conn := range []int{-1, 8, math.MinInt, math.MaxInt} {
			refused(t, "no such connection", take(base(), conn, 0, hold), errArg)
			refused(t, "no such connection, and nothing waits", take(none, conn, 0, hold), errArg)
		}
		for _, sub := range []int{-1, maxNum + 1, math.MinInt, math.MaxInt} {
			refused(t, "no such subscription", take(base(), 0, sub, hold), errArg)
			refused(t, "no such subscription, and nothing waits", take(none, 0, sub, hold), errArg)
		}
	}
}

func TestP10_1_TakeToTheLastTag(t *testing.T) {
	q := base()
	q.Tag = maxNum - 1
	a := take(q, 3, 3, false)
	if done(t, "Take", a); a.tag != 0 || a.q.Tag != maxNum-1 {
		t.Errorf("Take: %d, %s", a.tag, brief(a.q))
	}
	a = take(q, 3, 3, true)
	if q = done(t, "Take held", a); a.tag != maxNum || q.Tag != maxNum || q.Held[3].Tag != maxNum || !queue.Good(q) {
		t.Errorf("the last tag: %d, %s", a.tag, brief(q))
	}
	refused(t, "behind the last tag, held", take(q, 3, 3, true), errArg)
	refused(t, "behind the last tag", take(q, 3, 3, false), errArg)
	none := q
	none.Items = nil
	refused(t, "behind the last tag, and nothing waits", take(none, 3, 3, true), errArg)
	stands(t, "settled", done(t, "Settle", settle(q, 3, maxNum, true)), "three+ five", "2:four 3:eight 5:one")
}

func TestP10_1_Settle(t *testing.T) {
	for at, h := range base().Held {
		want := base()
		want.Held = slices.Delete(want.Held, at, at+1)
		is(t, "Settle", done(t, "Settle", settle(base(), h.Conn, h.Tag, false)), want)
		back := h.Item
		back.Again = true
		want.Items = append(want.Items, back)
		slices.SortFunc(want.Items, func(a, b api.Item) int { return cmp.Compare(a.Seq, b.Seq) })
		is(t, "Settle again", done(t, "Settle again", settle(base(), h.Conn, h.Tag, true)), want)
		gone := done(t, "Settle", settle(base(), h.Conn, h.Tag, at == 1))
		refused(t, "settled already", settle(gone, h.Conn, h.Tag, at == 0), errNone)
	}
	for _, again := range []bool{true, false} {
		for _, c := range [][2]int{{7, 2}, {1, 3}, {7, 5}, {0, 2}, {1, 1}, {1, 4}, {1, 6}, {1, 0}, {1, -1}, {-1, 2}, {8, 2}, {2, 1}, {math.MaxInt, math.MaxInt}, {math.MinInt, math.MinInt}} {
			refused(t, fmt.Sprint("Settle of ", c), settle(base(), c[0], c[1], again), errNone)
		}
		refused(t, "nothing is held", settle(made(t, 2, "x"), 0, 1, again), errNone)
	}
}

// An item is put back ahead of, between and behind those that wait.
func TestP10_1_PutBackInItsPlace(t *testing.T) {
	q := base()
	stands(t, "ahead", done(t, "Settle", settle(q, 1, 5, true)), "one+ three+ five", "2:four 3:eight")
	stands(t, "between", done(t, "Settle", settle(q, 1, 2, true)), "three+ four+ five", "3:eight 5:one")
	stands(t, "behind", done(t, "Settle", settle(q, 7, 3, true)), "three+ five eight+", "2:four 5:one")
	q.Items = nil
	stands(t, "alone", done(t, "Settle", settle(q, 1, 2, true)), "four+", "3:eight 5:one")
}

func TestP10_1_Release(t *testing.T) {
	for _, c := range []struct {
		conn, sub     int
		waiting, held string
	}{
		{1, -1, "one+ three+ four+ five", "3:eight"},
		{1, 4, "three+ four+ five", "3:eight 5:one"},
		{1, 7, "one+ three+ five", "2:four 3:eight"},
		{7, -1, "three+ five eight+", "2:four 5:one"},
		{7, maxNum, "three+ five eight+", "2:four 5:one"},
	} {
		q := done(t, "Release", release(base(), c.conn, c.sub))
		stands(t, fmt.Sprint("Release of ", c.conn, ", ", c.sub), q, c.waiting, c.held)
		if q.Seq != 9 || q.Tag != 5 || q.Depth != 6 || q.Name != "q" || !q.Durable {
			t.Errorf("Release changes more: %s", brief(q))
		}
		is(t, "Release once more", done(t, "Release once more", release(q, c.conn, c.sub)), q)
	}
	for _, c := range [][2]int{{0, -1}, {2, 4}, {1, 0}, {1, 5}, {1, maxNum}, {7, 4}, {8, -1}, {-1, -1}, {1, -2}, {4, 1}, {1, math.MinInt}, {math.MinInt, -1}, {math.MaxInt, math.MaxInt}} {
		is(t, fmt.Sprint("Release of ", c), done(t, "Release", release(base(), c[0], c[1])), base())
	}
	q := made(t, 3, "x", "y", "z")
	for range 3 {
		q = done(t, "Take", take(q, 0, 0, true))
	}
	stands(t, "all", done(t, "Release", release(q, 0, 0)), "x+ y+ z+", "")
}

func TestP10_1_Expire(t *testing.T) {
	q := made(t, 9)
	for _, until := range []int{0, 5, 4, 6, maxNum, 1, maxNum - 1, 5, 0} {
		q = done(t, "Push", push(q, api.Msg{Topic: "a", Body: fmt.Sprint(until), Until: until}))
	}
	top, below := fmt.Sprint(maxNum), fmt.Sprint(maxNum-1)
	for _, c := range []struct {
		now  int
		left []string
	}{
		{math.MinInt, []string{"0", "5", "4", "6", top, "1", below, "5", "0"}},
		{-1, []string{"0", "5", "4", "6", top, "1", below, "5", "0"}},
		{0, []string{"0", "5", "4", "6", top, "1", below, "5", "0"}},
		{1, []string{"0", "5", "4", "6", top, below, "5", "0"}},
		{3, []string{"0", "5", "4", "6", top, below, "5", "0"}},
		{4, []string{"0", "5", "6", top, below, "5", "0"}},
		{5, []string{"0", "6", top, below, "0"}},
		{6, []string{"0", top, below, "0"}},
		{maxNum - 1, []string{"0", top, "0"}},
		{maxNum, []string{"0", "0"}},
		{maxNum + 1, []string{"0", "0"}},
		{math.MaxInt, []string{"0", "0"}},
	} {
		got := done(t, "Expire", expire(q, c.now))
		stands(t, fmt.Sprint("at ", c.now), got, strings.Join(c.left, " "), "")
		if got.Seq != 9 || got.Tag != 0 {
			t.Errorf("Expire changes more: %s", brief(got))
		}
	}
	// What is held doesn't expire, and does so when it is put back.
	held := done(t, "Expire", expire(base(), 77))
	stands(t, "at 77", held, "", "2:four 3:eight 5:one")
	stands(t, "at 76", done(t, "Expire", expire(base(), 76)), "three+ five", "2:four 3:eight 5:one")
	back := done(t, "Release", release(held, 1, -1))
	stands(t, "put back", back, "one+ four+", "3:eight")
	stands(t, "at 77 again", done(t, "Expire", expire(back, 77)), "", "3:eight")
}

// can: whether a queue can be, asked one by one and pair by pair.
func can(q api.Queue) bool {
	num := func(n int) bool { return n >= 0 && n <= maxNum }
	msg := func(m api.Msg) bool {
		return topic.Good(m.Topic) && len(m.Body) < 1025 && prop.Valid(m.Props) && num(m.Until)
	}
	yes := prop.Name(q.Name) && q.Depth > 0 && q.Depth < 65 && num(q.Seq) && num(q.Tag) && len(q.Items)+len(q.Held) <= q.Depth
	for at, i := range q.Items {
		yes = yes && i.Seq > 0 && i.Seq <= q.Seq && msg(i.Msg)
		for _, j := range q.Items[:at] {
			yes = yes && j.Seq < i.Seq
		}
		for _, h := range q.Held {
			yes = yes && h.Item.Seq != i.Seq
		}
	}
	for at, h := range q.Held {
		yes = yes && h.Tag > 0 && h.Tag <= q.Tag && h.Conn >= 0 && h.Conn < 8 && num(h.Sub) && h.Item.Seq > 0 && h.Item.Seq <= q.Seq && msg(h.Item.Msg)
		for _, g := range q.Held[:at] {
			yes = yes && g.Tag < h.Tag && g.Item.Seq != h.Item.Seq
		}
	}
	return yes
}

// someQueue: a queue that can be.
func someQueue(r *rand.Rand) api.Queue {
	depth := 1 + r.Intn(12)
	q := api.Queue{Name: "q", Durable: r.Intn(2) == 0, Depth: depth}
	top := depth + r.Intn(10)
	numbers := r.Perm(top)[:r.Intn(depth+1)]
	waiting := r.Intn(len(numbers) + 1)
	slices.Sort(numbers[:waiting])
	for _, n := range numbers[:waiting] {
		q.Items = append(q.Items, api.Item{Seq: n + 1, Again: r.Intn(2) == 0, Msg: someMsg(r, n+1)})
	}
	for _, n := range numbers[waiting:] {
		q.Tag += 1 + r.Intn(3)
		q.Held = append(q.Held, api.Held{Tag: q.Tag, Conn: r.Intn(3), Sub: r.Intn(3), Item: api.Item{Seq: n + 1, Again: r.Intn(2) == 0, Msg: someMsg(r, n+1)}})
	}
	q.Seq = top + r.Intn(2)
	q.Tag += r.Intn(2)
	return q
}

// someMsg: a message that can be, and tells which one it is.
func someMsg(r *rand.Rand, n int) api.Msg {
	m := api.Msg{Topic: "t", Body: fmt.Sprint("m", n), Durable: r.Intn(2) == 0, Until: r.Intn(12)}
	m.Props = props(r.Intn(4))
	return m
}

// odd changes a number, or some other thing, of a queue; it may still be one that can be.
func odd(r *rand.Rand, q *api.Queue) {
	edge := []int{-1, 0, 1, 2, 3, 7, 8, 64, 65, maxNum, maxNum + 1, q.Seq, q.Seq + 1, q.Tag, q.Tag + 1, queue.Len(*q), queue.Len(*q) - 1}
	n := edge[r.Intn(len(edge))]
	fields := []*int{&q.Depth, &q.Seq, &q.Tag}
	for i := range q.Items {
		fields = append(fields, &q.Items[i].Seq, &q.Items[i].Msg.Until)
	}
	for i := range q.Held {
		h := &q.Held[i]
		fields = append(fields, &h.Tag, &h.Conn, &h.Sub, &h.Item.Seq, &h.Item.Msg.Until)
	}
	*fields[r.Intn(len(fields))] = n
}

func TestP10_1_GoodOfAnyQueue(t *testing.T) {
	r := rand.New(rand.NewSource(101))
	told := map[bool]int{}
	for range 60000 {
		q := someQueue(r)
		if !can(q) || !queue.Good(q) {
			t.Fatalf("can be: %s", brief(q))
		}
		for range 1 + r.Intn(2) {
			odd(r, &q)
		}
		if queue.Good(q) != can(q) {
			t.Fatalf("Good is %t: %s", queue.Good(q), brief(q))
		}
		told[can(q)]++
	}
	if told[true] < 5000 || told[false] < 5000 {
		t.Errorf("one-sided: %v", told)
	}
}

// entry is a message that a twin has, waiting or held (tag above 0).
type entry struct {
	item      api.Item
	tag       int
	conn, sub int
}

// twin holds what a queue holds as one list in the order of pushing: so what is put back is where it belongs.
type twin struct {
	head api.Queue // all but the lists
	list []entry
}

func twinOf(q api.Queue) *twin {
	w := &twin{head: q}
	w.head.Items, w.head.Held = nil, nil
	for _, i := range q.Items {
		w.list = append(w.list, entry{item: i})
	}
	for _, h := range q.Held {
		w.list = append(w.list, entry{h.Item, h.Tag, h.Conn, h.Sub})
	}
	slices.SortFunc(w.list, func(a, b entry) int { return cmp.Compare(a.item.Seq, b.item.Seq) })
	return w
}

func (w *twin) queue() api.Queue {
	q := w.head
	for _, e := range w.list {
		if e.tag == 0 {
			q.Items = append(q.Items, e.item)
		} else {
			q.Held = append(q.Held, api.Held{Tag: e.tag, Conn: e.conn, Sub: e.sub, Item: e.item})
		}
	}
	slices.SortFunc(q.Held, func(a, b api.Held) int { return cmp.Compare(a.Tag, b.Tag) })
	return q
}

func (w *twin) push(m api.Msg) answer {
	switch {
	case w.head.Seq == maxNum:
		return answer{err: errArg}
	case !queue.Message(m):
		return answer{err: errMsg}
	case len(w.list) == w.head.Depth:
		return answer{err: errDeep}
	}
	w.head.Seq++
	w.list = append(w.list, entry{item: api.Item{Seq: w.head.Seq, Msg: m}})
	return answer{q: w.queue()}
}

func (w *twin) take(conn, sub int, hold bool) answer {
	if conn < 0 || conn > 7 || sub < 0 || sub > maxNum || w.head.Tag == maxNum {
		return answer{err: errArg}
	}
	for at, e := range w.list {
		if e.tag > 0 {
			continue
		}
		if !hold {
			w.list = slices.Delete(w.list, at, at+1)
			return answer{q: w.queue(), item: e.item}
		}
		w.head.Tag++
		w.list[at] = entry{e.item, w.head.Tag, conn, sub}
		return answer{q: w.queue(), tag: w.head.Tag, item: e.item}
	}
	return answer{err: errNone}
}

func (w *twin) back(at int) {
	e := &w.list[at]
	e.tag, e.conn, e.sub, e.item.Again = 0, 0, 0, true
}

func (w *twin) settle(conn, tag int, again bool) answer {
	for at, e := range w.list {
		if e.tag == 0 || e.tag != tag || e.conn != conn {
			continue
		}
		if again {
			w.back(at)
		} else {
			w.list = slices.Delete(w.list, at, at+1)
		}
		return answer{q: w.queue()}
	}
	return answer{err: errNone}
}

func (w *twin) release(conn, sub int) answer {
	for at, e := range w.list {
		if e.tag > 0 && e.conn == conn && (sub == -1 || e.sub == sub) {
			w.back(at)
		}
	}
	return answer{q: w.queue()}
}

func (w *twin) expire(now int) answer {
	var left []entry
	for _, e := range w.list {
		if e.tag > 0 || e.item.Msg.Until == 0 || e.item.Msg.Until > now {
			left = append(left, e)
		}
	}
	w.list = left
	return answer{q: w.queue()}
}

// step: one call of whatever kind, of a queue and of its twin.
func step(r *rand.Rand, q api.Queue, w *twin, n int) (call string, is, want answer) {
	conn, sub, flag := r.Intn(5)-1, r.Intn(5)-1, r.Intn(3) > 0
	if r.Intn(12) == 0 {
		conn, sub = []int{7, 8, math.MinInt}[r.Intn(3)], []int{maxNum, maxNum + 1, math.MaxInt}[r.Intn(3)]
	}
	switch r.Intn(11) {
	case 0, 1, 2:
		m := someMsg(r, n)
		if r.Intn(10) == 0 {
			m.Until = -1
		}
		return "Push", push(q, m), w.push(m)
	case 3, 4, 5:
		return "Take", take(q, conn, sub, flag), w.take(conn, sub, flag)
	case 6, 7:
		tag := q.Tag - r.Intn(6)
		if len(q.Held) > 0 && r.Intn(3) > 0 {
			h := q.Held[r.Intn(len(q.Held))]
			conn, tag = h.Conn, h.Tag
		}
		return "Settle", settle(q, conn, tag, flag), w.settle(conn, tag, flag)
	case 8:
		return "Release", release(q, conn, sub), w.release(conn, sub)
	}
	now := r.Intn(14) - 2
	return "Expire", expire(q, now), w.expire(now)
}

// Long rows of calls, of new queues and of any that can be, some near the last numbers.
func TestP10_1_LongRows(t *testing.T) {
	r := rand.New(rand.NewSource(102))
	told := map[string]int{}
	for row := range 300 {
		q := someQueue(r)
		if row%3 == 0 {
			q.Items, q.Held, q.Seq, q.Tag, q.Depth = nil, nil, 0, 0, 1+r.Intn(64)
		}
		if row%5 == 0 {
			q.Seq, q.Tag = maxNum-r.Intn(200), maxNum-r.Intn(200)
		}
		w := twinOf(q)
		for n := range 200 {
			before := q
			call, got, want := step(r, q, w, 1000+n)
			told[fmt.Sprint(call, want.err)]++
			if got.err != want.err || got.tag != want.tag || !sameItem(got.item, want.item) || !sameQueue(got.q, want.q) {
				t.Fatalf("%s of %s: %d, %d, %s\nnot %d, %d, %s", call, brief(before), got.err, got.tag, brief(got.q), want.err, want.tag, brief(want.q))
			}
			if got.err == ok {
				q = got.q
			}
		}
	}
	for _, what := range []string{"Push0", "Push1", "Push35", "Push36", "Take0", "Take1", "Take33", "Settle0", "Settle33", "Release0", "Expire0"} {
		if told[what] < 100 {
			t.Errorf("%s was told %d times", what, told[what])
		}
	}
}

func TestP10_2_CanBeAlways(t *testing.T) {
	r := rand.New(rand.NewSource(103))
	full := 0
	for row := range 300 {
		q := someQueue(r)
		if row%4 == 0 {
			q.Seq, q.Tag = maxNum-r.Intn(40), maxNum-r.Intn(40)
		}
		for n := range 150 {
			call, got, _ := step(r, q, twinOf(q), n)
			if got.err != ok {
				refused(t, call, got, got.err)
				continue
			}
			if !can(got.q) || !queue.Good(got.q) || queue.Len(got.q) > q.Depth {
				t.Fatalf("%s of %s leads to %s", call, brief(q), brief(got.q))
			}
			if got.q.Name != q.Name || got.q.Durable != q.Durable || got.q.Depth != q.Depth {
				t.Fatalf("%s changes what a queue is: %s", call, brief(got.q))
			}
			if q = got.q; queue.Len(q) == q.Depth {
				full++
			}
		}
	}
	if full < 1000 {
		t.Errorf("just %d times full", full)
	}
}

// bodies: which messages are in a queue, and how often each.
func bodies(q api.Queue) map[string]int {
	all := map[string]int{}
	for _, i := range q.Items {
		all[i.Msg.Body]++
	}
	for _, h := range q.Held {
		all[h.Item.Msg.Body]++
	}
	return all
}

// ledger tells where each message went that was pushed, in the order of pushing.
type ledger struct {
	order map[string]int
	gone  map[string]string
}

// check: each is there just once until it is gone, and never behind that; what waits is in order.
func (l *ledger) check(t *testing.T, q api.Queue) {
	t.Helper()
	here := bodies(q)
	for body := range l.order {
		want := 1
		if l.gone[body] != "" {
			want = 0
		}
		if here[body] != want {
			t.Fatalf("%s is there %d times, it is gone by %q: %s", body, here[body], l.gone[body], brief(q))
		}
	}
	if len(here) != len(l.order)-len(l.gone) {
		t.Fatalf("%d are there: %s", len(here), brief(q))
	}
	for at := 1; at < len(q.Items); at++ {
		if l.order[q.Items[at-1].Msg.Body] >= l.order[q.Items[at].Msg.Body] {
			t.Fatalf("not in the order of pushing: %s", waits(q))
		}
	}
}

// leave: a message is gone, for the first time.
func (l *ledger) leave(t *testing.T, body, why string) {
	t.Helper()
	if l.gone[body] != "" {
		t.Fatalf("%s is gone by %s, and was by %s", body, why, l.gone[body])
	}
	l.gone[body] = why
}

// walk: one call; what it does to the messages is written into the ledger from what was asked, not from the queue answered.
func (l *ledger) walk(t *testing.T, r *rand.Rand, q api.Queue) api.Queue {
	t.Helper()
	switch r.Intn(10) {
	case 0, 1, 2, 3:
		m := api.Msg{Topic: "t", Body: fmt.Sprint("m", len(l.order)), Until: r.Intn(8) * r.Intn(2)}
		a := push(q, m)
		if queue.Len(q) == q.Depth {
			refused(t, "Push", a, errDeep)
			return q
		}
		l.order[m.Body] = len(l.order)
		return done(t, "Push", a)
	case 4, 5, 6:
		hold := r.Intn(4) > 0
		a := take(q, r.Intn(3), r.Intn(2), hold)
		if len(q.Items) == 0 {
			refused(t, "Take", a, errNone)
			return q
		}
		if a.item.Msg.Body != q.Items[0].Msg.Body {
			t.Fatalf("Take hands out %q of %q", a.item.Msg.Body, waits(q))
		}
		if !hold {
			l.leave(t, a.item.Msg.Body, "Take")
		}
		return done(t, "Take", a)
	case 7:
		if len(q.Held) == 0 {
			return q
		}
		h, again := q.Held[r.Intn(len(q.Held))], r.Intn(2) == 0
		if !again {
			l.leave(t, h.Item.Msg.Body, "Settle")
		}
		return done(t, "Settle", settle(q, h.Conn, h.Tag, again))
	case 8:
		return done(t, "Release", release(q, r.Intn(3), r.Intn(3)-1))
	}
	now := r.Intn(10) - 1
	for _, i := range q.Items {
		if i.Msg.Until > 0 && i.Msg.Until <= now {
			l.leave(t, i.Msg.Body, "Expire")
		}
	}
	return done(t, "Expire", expire(q, now))
}

func TestP10_3_NothingIsLostNothingComesTwice(t *testing.T) {
	r := rand.New(rand.NewSource(104))
	why := map[string]int{}
	for range 60 {
		q := made(t, 1+r.Intn(64))
		l := &ledger{map[string]int{}, map[string]string{}}
		for range 600 {
			q = l.walk(t, r, q)
			l.check(t, q)
		}
		for _, by := range l.gone {
			why[by]++
		}
		// In the end all that is left comes out, in the order of pushing.
		for conn := range 3 {
			q = done(t, "Release", release(q, conn, -1))
		}
		last := -1
		for len(q.Items) > 0 {
			a := take(q, 0, 0, false)
			q = done(t, "Take", a)
			l.leave(t, a.item.Msg.Body, "the end")
			if l.order[a.item.Msg.Body] <= last {
				t.Fatalf("%s comes late", a.item.Msg.Body)
			}
			last = l.order[a.item.Msg.Body]
		}
		if len(l.gone) != len(l.order) || queue.Len(q) != 0 {
			t.Fatalf("%d of %d came", len(l.gone), len(l.order))
		}
	}
	for _, by := range []string{"Take", "Settle", "Expire"} {
		if why[by] < 300 {
			t.Errorf("%d went by %s", why[by], by)
		}
	}
}

// Whatever was put back, in whatever order: what waits stands in the order of pushing.
func TestP10_3_PutBackInAnyOrder(t *testing.T) {
	r := rand.New(rand.NewSource(105))
	for range 100 {
		n := 1 + r.Intn(20)
		q := made(t, 64)
		var want []string
		for i := range n + r.Intn(5) {
			q = done(t, "Push", push(q, rich(fmt.Sprint(i))))
		}
		for range n {
			q = done(t, "Take", take(q, r.Intn(8), 0, true))
		}
		for _, at := range r.Perm(n) {
			tag := at + 1
			h := q.Held[slices.IndexFunc(q.Held, func(h api.Held) bool { return h.Tag == tag })]
			q = done(t, "Settle", settle(q, h.Conn, tag, true))
			if !slices.IsSortedFunc(q.Items, func(a, b api.Item) int { return cmp.Compare(a.Seq, b.Seq) }) {
				t.Fatalf("not in order: %s", waits(q))
			}
		}
		for i := range q.Items {
			body := fmt.Sprint(i)
			if i < n {
				body += "+"
			}
			want = append(want, body)
		}
		stands(t, "put back", q, strings.Join(want, " "), "")
	}
}

// roomyProps: the same properties, with room behind them in which others stand.
func roomyProps(list []api.Prop) []api.Prop {
	whole := append(slices.Clone(list), api.Prop{Name: "room"}, api.Prop{Name: "behind"})
	return whole[:len(list)]
}

func roomyItem(i api.Item) api.Item {
	i.Msg.Props = roomyProps(i.Msg.Props)
	return i
}

// roomy: the same queue, each of whose lists has room behind it in which something stands.
func roomy(q api.Queue) api.Queue {
	var items []api.Item
	for _, i := range q.Items {
		items = append(items, roomyItem(i))
	}
	var held []api.Held
	for _, h := range q.Held {
		h.Item = roomyItem(h.Item)
		held = append(held, h)
	}
	for n := range 3 {
		items = append(items, roomyItem(item(100+n, "room")))
		held = append(held, api.Held{Tag: 100 + n, Item: roomyItem(item(200+n, "room"))})
	}
	q.Items, q.Held = items[:len(q.Items)], held[:len(q.Held)]
	return q
}

// whole: all that a queue's lists have, their room too, in memory of its own.
func whole(q api.Queue) api.Queue {
	q.Items, q.Held = slices.Clone(q.Items[:cap(q.Items)]), slices.Clone(q.Held[:cap(q.Held)])
	for at := range q.Items {
		p := &q.Items[at].Msg.Props
		*p = slices.Clone((*p)[:cap(*p)])
	}
	for at := range q.Held {
		p := &q.Held[at].Item.Msg.Props
		*p = slices.Clone((*p)[:cap(*p)])
	}
	return q
}

// lists: the properties' lists that are reached from a queue, with their room.
func lists(q api.Queue) [][]api.Prop {
	var all [][]api.Prop
	for _, i := range q.Items[:cap(q.Items)] {
		all = append(all, i.Msg.Props[:cap(i.Msg.Props)])
	}
	for _, h := range q.Held[:cap(q.Held)] {
		all = append(all, h.Item.Msg.Props[:cap(h.Item.Msg.Props)])
	}
	return all
}

// scribble writes over all that is reached from a queue.
func scribble(q api.Queue) {
	for _, list := range lists(q) {
		scribbleProps(list)
	}
	for at := range q.Items[:cap(q.Items)] {
		q.Items[:cap(q.Items)][at] = api.Item{Seq: -1, Msg: api.Msg{Topic: "written"}}
	}
	for at := range q.Held[:cap(q.Held)] {
		q.Held[:cap(q.Held)][at] = api.Held{Tag: -1}
	}
}

func scribbleProps(list []api.Prop) {
	for at := range list[:cap(list)] {
		list[:cap(list)][at] = api.Prop{Name: "written", Value: api.Value{Kind: -1}}
	}
}

// apart: that no two lists of one answer share memory.
func apart(t *testing.T, what string, a answer) {
	t.Helper()
	all := append(lists(a.q), a.item.Msg.Props[:cap(a.item.Msg.Props)])
	for n, list := range all {
		for at := range list {
			list[at] = api.Prop{Name: fmt.Sprint(n)}
		}
	}
	for n, list := range all {
		for _, p := range list {
			if p.Name != fmt.Sprint(n) {
				t.Errorf("%s: two lists of one answer share memory", what)
			}
		}
	}
}

// calls: each call of a queue that answers one, as far as base has something for it to do; some that are refused.
func calls() map[string]func(api.Queue, api.Msg) answer {
	return map[string]func(api.Queue, api.Msg) answer{
		"Copy":                func(q api.Queue, _ api.Msg) answer { return answer{q: queue.Copy(q)} },
		"Push":                push,
		"Push of no message":  func(q api.Queue, m api.Msg) answer { m.Until = -1; return push(q, m) },
		"Take held":           func(q api.Queue, _ api.Msg) answer { return take(q, 2, 2, true) },
		"Take":                func(q api.Queue, _ api.Msg) answer { return take(q, 2, 2, false) },
		"Take of none":        func(q api.Queue, _ api.Msg) answer { return take(q, 8, 2, true) },
		"Settle":              func(q api.Queue, _ api.Msg) answer { return settle(q, 1, 2, false) },
		"Settle again, first": func(q api.Queue, _ api.Msg) answer { return settle(q, 1, 5, true) },
		"Settle again":        func(q api.Queue, _ api.Msg) answer { return settle(q, 1, 2, true) },
		"Settle again, last":  func(q api.Queue, _ api.Msg) answer { return settle(q, 7, 3, true) },
		"Settle of none":      func(q api.Queue, _ api.Msg) answer { return settle(q, 2, 2, true) },
		"Release":             func(q api.Queue, _ api.Msg) answer { return release(q, 1, 4) },
		"Release of all":      func(q api.Queue, _ api.Msg) answer { return release(q, 1, -1) },
		"Release of none":     func(q api.Queue, _ api.Msg) answer { return release(q, 3, -1) },
		"Expire":              func(q api.Queue, _ api.Msg) answer { return expire(q, 50) },
		"Expire of all":       func(q api.Queue, _ api.Msg) answer { return expire(q, 77) },
		"Expire of none":      func(q api.Queue, _ api.Msg) answer { return expire(q, 0) },
		"Good, Len and Holds": func(q api.Queue, m api.Msg) answer {
			queue.Good(q)
			queue.Message(m)
			return answer{tag: queue.Len(q) + queue.Holds(q, 1, 4)}
		},
	}
}

// kinds: queues of which the calls are asked: that can be, that can't, with and without what they look for.
func kinds() map[string]api.Queue {
	soon := base()
	soon.Items[0].Msg.Until = 50
	full := base()
	full.Depth = 5
	none := base()
	none.Items = nil
	fresh := base()
	fresh.Held = nil
	wrong := base()
	wrong.Items[1].Seq = 3
	plain := base()
	plain.Items[0].Msg.Props, plain.Held[0].Item.Msg.Props = nil, []api.Prop{}
	return map[string]api.Queue{"base": base(), "soon": soon, "full": full, "none waits": none, "none is held": fresh, "wrong": wrong, "plain": plain}
}

func TestP10_4_WhatIsHandedInIsNotChanged(t *testing.T) {
	for kind, q := range kinds() {
		for call, ask := range calls() {
			given, m := roomy(q), rich("new")
			m.Props = roomyProps(m.Props)
			before, list := whole(given), slices.Clone(m.Props[:cap(m.Props)])
			ask(given, m)
			is(t, kind+", "+call+": what was handed in", whole(given), before)
			if !slices.EqualFunc(m.Props[:cap(m.Props)], list, sameProp) {
				t.Errorf("%s, %s: the message was changed", kind, call)
			}
		}
	}
}

func TestP10_4_WhatIsAnsweredIsNewMemory(t *testing.T) {
	for kind, q := range kinds() {
		for call, ask := range calls() {
			what := kind + ", " + call
			given, m := roomy(q), rich("new")
			m.Props = roomyProps(m.Props)
			before, list := whole(given), slices.Clone(m.Props[:cap(m.Props)])
			first, second, third := ask(given, m), ask(given, m), ask(given, m)
			want, one := whole(second.q), slices.Clone(second.item.Msg.Props)
			kept := func(who string) {
				t.Helper()
				is(t, what+": an answer behind "+who, whole(second.q), want)
				if !slices.EqualFunc(second.item.Msg.Props, one, sameProp) {
					t.Errorf("%s: an item behind %s is another", what, who)
				}
			}
			// An answer, and the item beside it.
			scribbleProps(first.item.Msg.Props)
			is(t, what+": a queue behind its item", whole(first.q), want)
			scribble(first.q)
			kept("another answer")
			is(t, what+": what was handed in behind an answer", whole(given), before)
			if !slices.EqualFunc(m.Props[:cap(m.Props)], list, sameProp) {
				t.Errorf("%s: the message shares memory with an answer", what)
			}
			// What was handed in, and is used again by the caller.
			scribble(given)
			scribbleProps(m.Props)
			kept("what was handed in")
			apart(t, what, third)
			kept("a third answer")
		}
	}
}

// The room behind an answer's lists leads to nothing that stands elsewhere in it.
func TestP10_4_LongRowsStayApart(t *testing.T) {
	r := rand.New(rand.NewSource(106))
	for range 60 {
		q := someQueue(r)
		for n := range 60 {
			given := roomy(q)
			before := whole(given)
			call, got, want := step(r, given, twinOf(q), n)
			is(t, call+": what was handed in", whole(given), before)
			scribble(given)
			if got.err != ok {
				continue
			}
			is(t, call+": the answer", got.q, want.q)
			q = roomy(got.q)
			apart(t, call, got)
		}
	}
}

// Every call ends at odd arguments, with an error or with a queue that can be.
func TestP1_OddArguments(t *testing.T) {
	many := base()
	for n := range 1 << 16 {
		many.Items = append(many.Items, api.Item{Seq: n})
		many.Held = append(many.Held, api.Held{Tag: n})
	}
	if queue.Good(many) || queue.Len(many) != 2<<16+5 || queue.Holds(many, 0, 0) != 1<<16 {
		t.Error("a queue of many")
	}
	is(t, "Copy of many", queue.Copy(many), many)
	for _, q := range []api.Queue{many, {}, base(), {Name: "q", Depth: math.MaxInt, Seq: math.MaxInt, Tag: math.MaxInt}} {
		for _, a := range []int{math.MinInt, -1, 0, 1, maxNum, math.MaxInt} {
			for _, b := range []int{math.MinInt, -1, 0, 2, maxNum, math.MaxInt} {
				for _, got := range []answer{take(q, a, b, true), take(q, a, b, false), settle(q, a, b, true), settle(q, a, b, false), release(q, a, b), expire(q, b), push(q, api.Msg{Topic: "a", Until: b})} {
					if got.err != ok {
						refused(t, fmt.Sprint(a, ", ", b), got, got.err)
					} else if !can(got.q) {
						t.Errorf("%d, %d lead to %s", a, b, brief(got.q))
					}
				}
			}
		}
	}
}

func TestP1_WhichErrorComesFirst(t *testing.T) {
	full := base()
	full.Depth = 5
	last := full
	last.Seq, last.Tag = maxNum, maxNum
	empty := last
	empty.Items = nil
	wrong := last
	wrong.Name = ""
	noMsg := api.Msg{Topic: "A"}
	refused(t, "Push: wrong, last, no message, full", push(wrong, noMsg), errArg)
	refused(t, "Push: last, no message, full", push(last, noMsg), errArg)
	refused(t, "Push: last, full", push(last, rich("x")), errArg)
	refused(t, "Push: no message, full", push(full, noMsg), errMsg)
	refused(t, "Push: full", push(full, rich("x")), errDeep)
	refused(t, "Take: last, nothing waits", take(empty, 0, 0, false), errArg)
	empty.Tag--
	refused(t, "Take: no connection, nothing waits", take(empty, 8, 0, true), errArg)
	refused(t, "Take: no subscription, nothing waits", take(empty, 0, -1, true), errArg)
	refused(t, "Take: nothing waits", take(empty, 0, 0, true), errNone)
	refused(t, "Settle: wrong, no tag", settle(wrong, 0, 0, true), errArg)
	refused(t, "Settle: no tag", settle(last, 0, 0, true), errNone)
}
