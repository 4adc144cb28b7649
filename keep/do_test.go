package keep_test

import (
	"fmt"
	"math"
	"math/rand"
	"slices"
	"strings"
	"testing"

	"trivet/api"
	"trivet/core"
	"trivet/drum"
	"trivet/image"
	"trivet/keep"
)

func TestP14_1_Example(t *testing.T) {
	d := drum.New(100)
	k := opened(t, d)
	done(t, k, api.Op{Kind: declare, Queue: "q", Durable: true, N: 3})
	m := api.Msg{Topic: "a", Body: "x", Durable: true}
	done(t, k, api.Op{Kind: publish, Queue: "q", Msg: m})
	out := done(t, k, api.Op{Kind: subscribe, Conn: 1, Sub: 2, Queue: "q", N: 5})
	is(t, "what is handed out", out, []api.Out{{Conn: 1, Sub: 2, Tag: 1, Queue: "q", Msg: m}})
	q := api.Queue{Name: "q", Durable: true, Depth: 3, Seq: 1, Tag: 1}
	held, waits := q, q
	held.Held = []api.Held{{Tag: 1, Conn: 1, Sub: 2, Item: api.Item{Seq: 1, Msg: m}}}
	waits.Items = []api.Item{{Seq: 1, Again: true, Msg: m}}
	holds(t, "ahead of the loss", k, api.Core{Queues: []api.Queue{held}, Subs: []api.Sub{{Conn: 1, Sub: 2, Queue: "q", Window: 5}}}, 3)
	d.Off(0)
	d.On()
	finds(t, "behind it", d, api.Core{Queues: []api.Queue{waits}}, 4)
}

// The bytes on the drum, by layers 5's and 13's words.
func TestP14_1_RecordsAndSnapshots(t *testing.T) {
	d := drum.New(30)
	k := opened(t, d)
	done(t, k, later(3))
	done(t, k, later(1), api.Op{Kind: declare, Queue: "q", Durable: true, N: 2})
	check := func(what, snapshot string, records ...string) {
		t.Helper()
		s, l := found(t, d)
		is(t, what+": the snapshot", string(s), snapshot)
		is(t, what+": Count", k.Count(), len(records))
		var texts []string
		for _, r := range l {
			texts = append(texts, string(r))
		}
		is(t, what+": the records", texts, records)
	}
	check("two records", "", "1;14;0;0;3;0;0:,0:,", "2;14;0;0;1;0;0:,0:,1;0;0;2;1;1:q,0:,")
	fine(t, "Save", k.Save())
	check("a snapshot", "4;1;1:q,1;2;0;0;0;0;0;0;0;0;")
	done(t, k, api.Op{Kind: publish, Queue: "q", Keep: true, Auto: true, Msg: api.Msg{Topic: "a", Body: "x"}})
	check("a record behind it", "4;1;1:q,1;2;0;0;0;0;0;0;0;0;", "1;5;0;0;0;6;1:q,0:,1:a,1:x,0;0;0;")
	fine(t, "Save", k.Save())
	check("another one", "4;1;1:q,1;2;1;0;1;1;0;1:a,1:x,0;0;0;0;0;0;1;1:a,1:x,0;0;0;0;")
	k = opened(t, d)
	check("a loss of power", "4;1;1:q,1;2;1;0;1;1;0;1:a,1:x,0;0;0;0;0;0;1;1:a,1:x,0;0;0;0;", "0;")
}

func TestP14_1_NilKeep(t *testing.T) {
	var k *keep.Keep
	for _, list := range [][]api.Op{nil, {later(1)}, times(17, later(1)), {{}}} {
		is(t, "Do", do(k, list...), answer{err: errNil})
	}
	is(t, "Save", k.Save(), errNil)
	holds(t, "nil", k, api.Core{}, 0)
}

func TestP14_1_HowManyOperations(t *testing.T) {
	for n := range 40 {
		d := drum.New(30)
		k := opened(t, d)
		want, count, err := api.Core{Now: n}, 1, ok
		if n == 0 || n > maxTx {
			want, count, err = api.Core{}, 0, errArg
		}
		is(t, fmt.Sprint("Do of ", n), do(k, times(n, later(1))...), answer{err: err})
		holds(t, fmt.Sprint("Do of ", n), k, want, count)
		is(t, "raw operations", d.Ops() > 0, count == 1)
		finds(t, "opened anew", d, want, count)
	}
}

// What can't be written down is told with the place 0, wherever it stands and whatever else is refused.
func TestP14_1_WhatCannotBeWrittenDown(t *testing.T) {
	d := drum.New(30)
	k := opened(t, d)
	done(t, k, start()...)
	c, ops := k.Core(), d.Ops()
	for what, o := range wrongOps() {
		if image.Valid(o) {
			t.Errorf("%s: can be written down", what)
		}
		for at := range 3 {
			for _, other := range []api.Op{later(1), hard("none", "x"), soft("b", "x")} {
				list := times(3, other)
				list[at] = o
				is(t, what, do(k, list...), answer{err: errArg})
			}
		}
		is(t, what, do(k, append(times(15, later(1)), o)...), answer{err: errArg})
	}
	holds(t, "behind all", k, c, 1)
	is(t, "raw operations", d.Ops(), ops)
}

// refusals: operations that can be written down and that the core behind start refuses, by which error.
func refusals() []struct {
	op  api.Op
	err api.Errno
} {
	return []struct {
		op  api.Op
		err api.Errno
	}{
		{later(maxNum - 4), errArg},
		{api.Op{Kind: subscribe, Queue: "a"}, errArg},
		{api.Op{Kind: publish, Msg: api.Msg{Topic: "a"}, Text: "me", N: 65536}, errArg},
		{api.Op{Kind: bind, Queue: "a", Text: "#.a"}, errTopic},
		{api.Op{Kind: forget, Text: "A"}, errName},
		{api.Op{Kind: declare, Queue: "", N: 1}, errName},
		{api.Op{Kind: declare, Queue: "a", N: 8}, errThere},
		{api.Op{Kind: subscribe, Conn: 1, Sub: 4, Queue: "a", N: 1}, errThere},
		{hard("none", "x"), errNone},
		{api.Op{Kind: ack, Conn: 1, Queue: "a", N: 2}, errNone},
		{api.Op{Kind: ack, Conn: 2, Queue: "a", N: 1}, errNone},
		{api.Op{Kind: get, Queue: "c"}, errNone},
	}
}

func TestP14_1_WhatRunRefuses(t *testing.T) {
	d := drum.New(30)
	k := opened(t, d)
	done(t, k, start()...)
	c, ops := k.Core(), d.Ops()
	for _, r := range refusals() {
		for _, n := range []int{1, 3, 16} {
			for _, at := range []int{0, n / 2, n - 1} {
				list := times(n, later(1))
				list[at] = r.op
				list[n-1] = r.op
				is(t, fmt.Sprintf("%+v in place %d", r.op, at), do(k, list...), answer{at: at, err: r.err})
			}
		}
	}
	// Here what is refused hangs on what is ahead of it.
	is(t, "too deep", do(k, times(6, hard("a", "x"))...), answer{at: 5, err: errDeep})
	is(t, "acknowledged twice", do(k, times(2, api.Op{Kind: ack, Conn: 1, Queue: "a", N: 1})...), answer{at: 1, err: errNone})
	var queues []api.Op
	for n := range 15 {
		queues = append(queues, api.Op{Kind: declare, Queue: fmt.Sprint("q", n), N: 1})
	}
	is(t, "too many queues", do(k, queues...), answer{at: 14, err: errRoom})
	holds(t, "behind all", k, c, 1)
	is(t, "raw operations", d.Ops(), ops)
	is(t, "and on", done(t, k, api.Op{Kind: ack, Conn: 1, Queue: "a", N: 1})[0].Tag, 2)
}

// What is handed out is the answer, in order, of all operations together; and the core is that behind them.
func TestP14_1_WhatIsHandedOut(t *testing.T) {
	r := rand.New(rand.NewSource(143))
	for range 60 {
		d := drum.New(600)
		k := opened(t, d)
		var c api.Core
		for n := range 12 {
			list := someList(r, c, 1+r.Intn(16), 1000)
			var want []api.Out
			at, err := 0, ok
			after := c
			for i, o := range list {
				next, out, e := core.Do(after, o)
				if e != ok {
					want, at, err, after = nil, i, e, c
					break
				}
				after, want = next, append(want, out...)
			}
			is(t, "Do", do(k, list...), answer{want, at, err})
			c = after
			is(t, "the core", k.Core(), c)
			if k.Count() > n+1 {
				t.Errorf("Count %d", k.Count())
			}
		}
	}
}

// Of a drum of five pages a tape has one page: a record of 244 bytes fits, one of 245 doesn't.
func TestP14_1_FullDrums(t *testing.T) {
	for _, pages := range []int{5, 6, 7, 9} {
		room := (half(pages) - 1) * size
		for _, c := range []struct {
			n   int
			err api.Errno
		}{{room - head - 1, ok}, {room - head, ok}, {room - head + 1, errFull}, {room - head + 2, errFull}, {room, errFull}, {room + 200, errFull}} {
			d := drum.New(pages)
			k := opened(t, d)
			b := all(t, d)
			o := padded(t, c.n)
			is(t, fmt.Sprintf("%d pages, %d bytes", pages, c.n), do(k, o), answer{err: c.err})
			if c.err == ok {
				holds(t, "it fits", k, api.Core{}, 1)
				is(t, "one more", do(k, later(1)), answer{err: errFull})
				holds(t, "one more", k, api.Core{}, 1)
				continue
			}
			holds(t, "it doesn't", k, api.Core{}, 0)
			is(t, "raw operations", d.Ops(), 0)
			sameBytes(t, "it doesn't", d, b)
			// Something shorter fits, then as ahead of it.
			done(t, k, later(1))
			finds(t, "something shorter", d, api.Core{Now: 1}, 1)
		}
	}
}

// greatest: 16 publishes that leave the core, as padded, whose bytes as one record are so many.
func greatest(t *testing.T, n int) []api.Op {
	t.Helper()
	var props []api.Prop
	for at := range 16 {
		props = append(props, api.Prop{Name: fmt.Sprintf("%016d", at), Value: api.Value{Kind: 3, Text: strings.Repeat("y", 190)}})
	}
	list := times(16, api.Op{Kind: publish, Msg: api.Msg{Topic: "t", Props: props, Until: 1, Body: strings.Repeat("x", 400)}})
	for at := range list {
		list[at].Msg.Props = slices.Clone(props)
		missing := n - len(opBytes(t, list...))
		list[at].Msg.Body += strings.Repeat("x", max(min(missing, 1024-400), 0))
		for missing > 0 && len(opBytes(t, list...)) > n {
			// A number more in the length of the body.
			list[at].Msg.Body = list[at].Msg.Body[1:]
		}
	}
	is(t, "the bytes", len(opBytes(t, list...)), n)
	return list
}

func TestP14_1_TooLongRecords(t *testing.T) {
	for _, pages := range []int{5, 9, 1000} {
		for _, n := range []int{most - 1, most, most + 1, most + 2, most + 1000} {
			d := drum.New(pages)
			k := opened(t, d)
			done(t, k, later(1))
			ops, b := d.Ops(), all(t, d)
			want, count := errLong, 1
			if n <= most {
				want = errFull
				if pages == 1000 {
					want, count = ok, 2
				}
			}
			is(t, fmt.Sprintf("%d pages, %d bytes", pages, n), do(k, greatest(t, n)...), answer{err: want})
			holds(t, "behind it", k, api.Core{Now: 1}, count)
			if want != ok {
				is(t, "raw operations", d.Ops(), ops)
				sameBytes(t, "behind it", d, b)
				done(t, k, times(3, later(1))...)
				continue
			}
			finds(t, "opened anew", d, api.Core{Now: 1}, 2)
		}
	}
}

func TestP14_1_WhichError(t *testing.T) {
	long := greatest(t, most+1)
	for _, down := range []bool{false, true} {
		for _, ended := range []bool{false, true} {
			d := drum.New(5)
			k := opened(t, d)
			done(t, k, padded(t, 220))
			if ended {
				d.Arm(1, 0)
				is(t, "Save", k.Save(), errDown)
				d.On()
			}
			if down {
				d.Off(0)
			}
			ops := d.Ops()
			tell := func(what string, at int, err api.Errno, list ...api.Op) {
				t.Helper()
				if (down || ended) && err != errArg {
					at, err = 0, errDown
				}
				is(t, fmt.Sprintf("%s, down %v, ended %v", what, down, ended), do(k, list...), answer{at: at, err: err})
			}
			tell("none", 0, errArg)
			tell("17", 0, errArg, times(17, hard("none", "x"))...)
			tell("can't be written down", 0, errArg, hard("none", "x"), api.Op{})
			tell("Run's", 1, errNone, later(1), hard("none", "x"))
			tell("Run's, and too long", 15, errNone, append(long[1:], hard("none", strings.Repeat("x", 1000)))...)
			tell("too long, and no room", 0, errLong, long...)
			tell("no room", 0, errFull, later(1))
			holds(t, "behind all", k, api.Core{}, 1)
			is(t, "raw operations", d.Ops(), ops)
			if !down && !ended {
				// What is armed doesn't go off, for nothing is written.
				d.Arm(1, 0)
				tell("no room, and armed", 0, errFull, later(1))
				tell("too long, and armed", 0, errLong, long...)
				tell("Run's, and armed", 0, errNone, hard("none", "x"))
				is(t, "down", d.Down(), false)
			}
		}
	}
	// An ErrArg of Run's own is told behind ErrDown, one of Do's ahead of it.
	d := drum.New(30)
	k := opened(t, d)
	is(t, "Run's ErrArg", do(k, later(1), later(maxNum)), answer{at: 1, err: errArg})
	d.Off(0)
	is(t, "without power", do(k, later(1), later(maxNum)), answer{err: errDown})
	is(t, "what can't be written down", do(k, later(1), later(maxNum+1)), answer{err: errArg})
}

// sized: operations behind which a core has so many bytes, and more than their own: the message is in two queues.
func sized(t *testing.T, n int) []api.Op {
	t.Helper()
	list := []api.Op{
		{Kind: declare, Queue: "a", Durable: true, N: 8}, {Kind: bind, Queue: "a", Text: "#"},
		{Kind: declare, Queue: "b", Durable: true, N: 8}, {Kind: bind, Queue: "b", Text: "#"},
		{}, {},
	}
	for body := range 1025 {
		for _, now := range []int{1, 10} {
			list[4], list[5] = hard("", strings.Repeat("x", body)), later(now)
			if len(coreBytes(t, behind(t, api.Core{}, list...))) == n {
				return list
			}
		}
	}
	t.Fatalf("no core of %d bytes", n)
	return nil
}

// A snapshot must leave a page of its half: the edges of pages, and of what a half can hold.
func TestP14_1_Save(t *testing.T) {
	for _, pages := range []int{9, 10, 13, 14} {
		room := (half(pages) - 1) * size
		for _, n := range []int{2*size - head, 2*size - head + 1, room - head - size, room - head - size + 1, room - head - 1, room - head, room - head + 1, room - head + 2, room, room + 200} {
			what := fmt.Sprintf("%d pages, a core of %d bytes", pages, n)
			d := drum.New(pages)
			k := opened(t, d)
			done(t, k, sized(t, n)...)
			c, ops, b := k.Core(), d.Ops(), all(t, d)
			if n > room-head {
				is(t, what, k.Save(), errLong)
				is(t, what+": raw operations", d.Ops(), ops)
				sameBytes(t, what, d, b)
				holds(t, what, k, c, 1)
				// And it goes on as if nothing had been.
				done(t, k, later(1))
				c.Now++
				finds(t, what, d, c, 2)
				continue
			}
			// Each half is saved to, and to the first one once more.
			for range 3 {
				ops = d.Ops()
				is(t, what, k.Save(), ok)
				is(t, what+": raw operations", d.Ops()-ops, takes(n)+4)
				holds(t, what, k, c, 0)
				finds(t, what, d, c, 0)
				snapshot, records := found(t, d)
				is(t, what+": the snapshot", string(snapshot), string(coreBytes(t, c)))
				is(t, what+": the records", len(records), 0)
				k = opened(t, d)
			}
		}
	}
}

// A drum of five pages takes some records, then none; behind a Save as many as ahead of it.
func TestP14_1_SavesMakeRoom(t *testing.T) {
	d := drum.New(5)
	k := opened(t, d)
	now := 0
	for range 6 {
		n := 0
		for do(k, later(1)).err == ok {
			n++
		}
		now += n
		// Each takes 31 bytes.
		is(t, "how many", n, 8)
		is(t, "one more", do(k, later(1)), answer{err: errFull})
		holds(t, "full", k, api.Core{Now: now}, 8)
		fine(t, "Save", k.Save())
		holds(t, "saved", k, api.Core{Now: now}, 0)
		finds(t, "saved", d, api.Core{Now: now}, 0)
		k = opened(t, d)
	}
}

// ended: that a Keep answers ErrDown from now on, whatever the drum does, and stays as it is.
func ended(t *testing.T, what string, k *keep.Keep, d *drum.Drum, c api.Core, count int) {
	t.Helper()
	for range 2 {
		ops := d.Ops()
		for _, list := range [][]api.Op{{later(1)}, {hard("none", "x")}, times(16, later(1)), {padded(t, 1000)}} {
			is(t, what+": Do", do(k, list...), answer{err: errDown})
		}
		is(t, what+": Do of none", do(k), answer{err: errArg})
		is(t, what+": Save", k.Save(), errDown)
		is(t, what+": raw operations", d.Ops(), ops)
		holds(t, what, k, c, count)
		d.On()
	}
}

func TestP14_1_TheEndOfAKeep(t *testing.T) {
	t.Parallel()
	for _, pages := range []int{9, 30} {
		for _, kept := range []int{0, 1, 255, 256, 300, 100000} {
			for n := 1; n <= 4; n++ {
				what := fmt.Sprintf("%d pages, %d bytes kept, in raw operation %d", pages, kept, n)
				d := drum.New(pages)
				k := opened(t, d)
				done(t, k, settled()...)
				c := k.Core()
				d.Arm(n, kept)
				is(t, what+": Do", do(k, later(1)), answer{err: errDown})
				is(t, what+": down", d.Down(), true)
				ended(t, what+" of Do", k, d, c, 1)
				k = opened(t, d)
				// Another Keep of the same drum isn't ended.
				done(t, k, later(1))
				c = k.Core()
				count := k.Count()
				for m := range takes(len(coreBytes(t, c))) + 4 {
					d.Arm(m+1, kept)
					is(t, what+": Save", k.Save(), errDown)
					ended(t, what+" of Save", k, d, c, count)
					k = opened(t, d)
					count = k.Count()
				}
			}
		}
	}
}

// A loss of power between two calls ends nothing: all was safe, and the Keep goes on as it was.
func TestP14_1_NoPowerBetweenCalls(t *testing.T) {
	d := drum.New(30)
	k := opened(t, d)
	done(t, k, start()...)
	c := k.Core()
	for n := range 4 {
		d.Off(n * 100)
		ops := d.Ops()
		is(t, "Do without power", do(k, later(1)), answer{err: errDown})
		is(t, "Save without power", k.Save(), errDown)
		is(t, "raw operations", d.Ops(), ops)
		holds(t, "without power", k, c, n%2+1)
		d.On()
		done(t, k, later(1))
		c.Now++
		holds(t, "when it is back", k, c, n%2+2)
		if n%2 == 1 {
			fine(t, "Save", k.Save())
			done(t, k, later(1))
			c.Now++
		}
	}
	finds(t, "opened anew", d, left(t, c), 2)
}

// Every call ends at odd arguments, and what it answers is what the twin does.
func TestP1_OddArguments(t *testing.T) {
	t.Parallel()
	r := rand.New(rand.NewSource(144))
	ints := []int{math.MinInt, -1, 0, 1, 2, 7, 8, 65535, maxNum, maxNum + 1, math.MaxInt}
	texts := []string{"", "a", "b", "#", "n.*", "me", "A", "\xff", "a.b.c.d.e.f.g.h.i", strings.Repeat("a", 17), strings.Repeat("a", 65)}
	some := func() api.Op {
		o := api.Op{
			Kind: one(r, 1+r.Intn(14), one(r, ints...)),
			Conn: one(r, 0, 1, one(r, ints...)), Sub: one(r, 0, 1, one(r, ints...)), N: one(r, 1, one(r, ints...)),
			Queue: one(r, texts...), Text: one(r, texts...), Durable: r.Intn(2) == 0, Auto: r.Intn(2) == 0, Keep: r.Intn(2) == 0,
		}
		if o.Kind == publish || r.Intn(20) == 0 {
			o.Msg = api.Msg{Topic: one(r, "n.o", one(r, texts...)), Body: one(r, texts...), Until: one(r, 0, one(r, ints...))}
		}
		return o
	}
	told := map[api.Errno]int{}
	for range 20 {
		b := newBoth(t, 100)
		b.do(t, start()...)
		for range 200 {
			var list []api.Op
			for range one(r, 1, 1, 1, 2, 3, 16, 17) {
				list = append(list, some())
			}
			told[b.do(t, list...)]++
		}
	}
	for _, err := range []api.Errno{ok, errArg, errName, errNone} {
		if told[err] < 20 {
			t.Errorf("error %d: %d times alone", err, told[err])
		}
	}
}

// The greatest drum, and cores of which the greatest don't fit on half of it.
func TestP14_1_TheGreatestDrum(t *testing.T) {
	d := drum.New(4096)
	k := opened(t, d)
	var c api.Core
	lay := func(list ...api.Op) {
		t.Helper()
		done(t, k, list...)
		c = behind(t, c, list...)
	}
	for n := range 16 {
		q := fmt.Sprint("q", n)
		lay(api.Op{Kind: declare, Queue: q, Durable: true, N: 64}, api.Op{Kind: bind, Queue: q, Text: "#"}, api.Op{Kind: subscribe, Conn: n % 8, Sub: n, Queue: q, N: 32})
	}
	for range 60 {
		lay(hard("", strings.Repeat("x", 1024)))
		if len(coreBytes(t, c)) > half(4096)*size {
			is(t, "Save", k.Save(), errLong)
		}
	}
	holds(t, "too long to be saved", k, c, 76)
	lay(api.Op{Kind: remove, Queue: "q0"}, later(1))
	k = finds(t, "opened", d, left(t, c), 78)
	c = left(t, c)
	// So much that the longest record has room behind it.
	for n := 1; len(coreBytes(t, c)) > half(4096)*size-most-3*size; n++ {
		lay(api.Op{Kind: remove, Queue: fmt.Sprint("q", n)})
	}
	if n := len(coreBytes(t, c)); n < 300000 {
		t.Errorf("a core of only %d bytes", n)
	}
	fine(t, "Save", k.Save())
	holds(t, "saved", k, c, 0)
	lay(greatest(t, most)...)
	finds(t, "saved, and a record", d, c, 1)
}
