package tx_test

import (
	"fmt"
	"math"
	"math/rand"
	"slices"
	"testing"

	"trivet/api"
	"trivet/core"
	"trivet/tx"
)

func TestP12_1_Example(t *testing.T) {
	c := api.Core{Queues: []api.Queue{{Name: "q", Depth: 1}}}
	o := api.Op{Kind: publish, Queue: "q", Msg: api.Msg{Topic: "a"}}
	refused(t, "two publishes", run(c, o, o), 1, errDeep)
	is(t, "the queue is empty still", c, api.Core{Queues: []api.Queue{{Name: "q", Depth: 1}}})
	if after := done(t, "one publish", run(c, o)); len(after.Queues[0].Items) != 1 {
		t.Errorf("one publish: %+v", after)
	}
}

func TestP12_1_Fits(t *testing.T) {
	ask := func(kind int, want bool) {
		t.Helper()
		full := api.Op{Kind: kind, Conn: 1, Sub: 2, N: 3, Queue: "q", Text: "me", Durable: true, Auto: true, Keep: true, Msg: rich("a", "b")}
		wrong := api.Op{Kind: kind, Conn: -1, Sub: math.MinInt, N: math.MaxInt, Queue: "A", Text: "\xff", Msg: api.Msg{Topic: "#", Until: -1}}
		for _, o := range []api.Op{{Kind: kind}, full, wrong} {
			if tx.Fits(o) != want {
				t.Errorf("%+v: %v", o, !want)
			}
		}
	}
	for _, kind := range []int{publish, ack, nack} {
		ask(kind, true)
	}
	for _, kind := range slices.Concat(fitless, kindless) {
		ask(kind, false)
	}
	for kind := -300; kind <= 300; kind++ {
		ask(kind, kind == 5 || kind == 11 || kind == 12)
	}
}

// mixed: so many operations, no two alike, of kinds that fit and, if any, of others.
func mixed(n int, any bool) []api.Op {
	var list []api.Op
	for at := range n {
		o := api.Op{Kind: []int{publish, ack, nack}[at%3], N: at, Queue: fmt.Sprint("q", at), Msg: rich("a", fmt.Sprint(at))}
		if any && at%2 == 1 {
			o.Kind = at - 3
		}
		list = append(list, o)
	}
	return list
}

// added: what Add answers.
type added struct {
	list []api.Op
	err  api.Errno
}

func add(list []api.Op, o api.Op) added {
	all, err := tx.Add(list, o)
	return added{all, err}
}

func TestP12_1_Add(t *testing.T) {
	for _, n := range []int{0, 1, 2, 7, 14, 15} {
		for _, any := range []bool{true, false} {
			for _, kind := range []int{publish, ack, nack} {
				o := api.Op{Kind: kind, Conn: 7, Sub: 6, N: 5, Queue: "z", Text: "you", Durable: true, Auto: true, Keep: true, Msg: rich("x.y", "new")}
				is(t, fmt.Sprintf("kind %d to %d", kind, n), add(mixed(n, any), o), added{list: append(mixed(n, any), o)})
				// Whether it could be done, nobody asks as yet.
				o = api.Op{Kind: kind, Conn: -1, N: math.MinInt, Queue: "A", Text: "\xff", Msg: api.Msg{Topic: "#", Until: -1, Props: []api.Prop{{}, {}}}}
				is(t, fmt.Sprintf("an odd one of kind %d to %d", kind, n), add(mixed(n, any), o), added{list: append(mixed(n, any), o)})
			}
		}
	}
	o := straight("q", "new")
	is(t, "to an empty list", add([]api.Op{}, o), added{list: []api.Op{o}})
	is(t, "to no list", add(nil, o), added{list: []api.Op{o}})
}

func TestP12_1_AddRefuses(t *testing.T) {
	for _, n := range []int{16, 17, 18, 32, 1000} {
		for _, any := range []bool{true, false} {
			for _, kind := range []int{publish, ack, nack} {
				is(t, fmt.Sprintf("kind %d to %d", kind, n), add(mixed(n, any), api.Op{Kind: kind}), added{err: errRoom})
			}
		}
	}
	// What doesn't fit comes first, where there is no room either.
	for _, n := range []int{0, 1, 15, 16, 17, 1000} {
		for _, kind := range slices.Concat(fitless, kindless) {
			o := straight("q", "new")
			o.Kind = kind
			is(t, fmt.Sprintf("kind %d to %d", kind, n), add(mixed(n, true), o), added{err: errArg})
		}
	}
}

func TestP12_1_AddOneByOne(t *testing.T) {
	var list []api.Op
	for at, o := range mixed(16, false) {
		a := add(list, o)
		is(t, fmt.Sprint("the list behind ", at), a, added{list: mixed(at+1, false)})
		list = a.list
	}
	is(t, "the 17th", add(list, straight("q", "new")), added{err: errRoom})
	is(t, "the list behind the 17th", list, mixed(16, false))
}

func TestP12_1_RunOfNone(t *testing.T) {
	cores := map[string]api.Core{
		"zeros": {}, "base": base(),
		// No operation is no pump: what waits for a subscription waits still, and what is no more stays.
		"pumping": with(func(c *api.Core) { c.Subs[0].Window, c.Subs[1].Auto = 32, true }),
		"old":     with(func(c *api.Core) { c.Now = 2000 }),
		"ended":   with(func(c *api.Core) { c.Now, c.Queues[0].Seq, c.Queues[0].Tag = maxNum, maxNum, maxNum }),
	}
	for what, c := range cores {
		is(t, what, run(c), answer{core: c})
		is(t, what+", an empty list", run(c, []api.Op{}...), answer{core: c})
	}
	for what, c := range wrongCores() {
		refused(t, what, run(c), 0, errArg)
	}
}

// One alone is what layer 11 answers of it.
func TestP12_1_RunOfOne(t *testing.T) {
	all := slices.Concat(fitless, kindless, []int{publish, ack, nack})
	cores := map[string]api.Core{"base": base(), "zeros": {}, "pumping": with(func(c *api.Core) { c.Subs[0].Window = 32 })}
	for what, c := range cores {
		for _, kind := range all {
			ops := []api.Op{{Kind: kind}, {Kind: kind, Conn: 8, N: -1, Queue: "e", Text: "A"}}
			if plain, there := plainOps()[kind]; there {
				ops = append(ops, plain)
				if a := run(base(), plain); a.err != ok {
					t.Errorf("kind %d: answers %d", kind, a.err)
				}
			}
			for _, o := range ops {
				after, out, err := core.Do(c, o)
				is(t, fmt.Sprintf("%s, %+v", what, o), run(c, o), answer{core: after, out: out, err: err})
			}
		}
	}
	for _, x := range refusals() {
		refused(t, fmt.Sprintf("%+v", x.op), run(base(), x.op), 0, x.err)
	}
}

// Each one finds what those ahead of it made.
func TestP12_1_OneBehindTheOther(t *testing.T) {
	a := run(api.Core{},
		api.Op{Kind: declare, Queue: "q", N: 3},
		api.Op{Kind: bind, Queue: "q", Text: "a.*"},
		api.Op{Kind: publish, Msg: api.Msg{Topic: "a.b", Body: "one"}, Keep: true},
		api.Op{Kind: publish, Msg: api.Msg{Topic: "a.c", Body: "two"}},
		api.Op{Kind: subscribe, Conn: 1, Sub: 4, Queue: "q", N: 1},
		api.Op{Kind: ack, Conn: 1, Queue: "q", N: 1},
		api.Op{Kind: nack, Conn: 1, Queue: "q", N: 2, Auto: true},
		api.Op{Kind: bind, Queue: "q", Text: "#", Keep: true, Conn: 2, Sub: 3},
		straight("q", "three"),
		api.Op{Kind: ack, Conn: 1, Queue: "q", N: 3},
		api.Op{Kind: tick, N: 7},
	)
	c := done(t, "a row of eleven", a)
	if got, want := told(a.out), "1/4#1 q:one, 1/4#2 q:two, 1/4#3 q:two+, 2/3#0 q:onek, 1/4#4 q:three"; got != want {
		t.Errorf("handed out is %q, not %q", got, want)
	}
	is(t, "the core behind it", c, api.Core{
		Now:    7,
		Queues: []api.Queue{{Name: "q", Depth: 3, Seq: 3, Tag: 4, Held: []api.Held{{Tag: 4, Conn: 1, Sub: 4, Item: api.Item{Seq: 3, Msg: rich("n.o", "three")}}}}},
		Binds:  []api.Bind{{Queue: "q", Pattern: "#"}, {Queue: "q", Pattern: "a.*"}},
		Subs:   []api.Sub{{Conn: 1, Sub: 4, Queue: "q", Window: 1}},
		Kept:   []api.Msg{{Topic: "a.b", Body: "one"}},
	})
	// The order counts: none of these is there, turned round.
	refused(t, "turned round", run(api.Core{}, straight("q", "one"), api.Op{Kind: declare, Queue: "q", N: 3}), 0, errNone)
	// It is pumped behind each one, not once behind all: then what a hands out would go ahead.
	a = run(with(func(c *api.Core) { c.Subs[2].Auto = true }), straight("d", "x"), straight("a", "y"), straight("d", "z"), plainOps()[ack])
	done(t, "two queues", a)
	if got, want := told(a.out), "7/1099511627776#0 d:x, 7/1099511627776#0 d:z, 1/4#6 a:five"; got != want {
		t.Errorf("handed out is %q, not %q", got, want)
	}
}

func TestP12_1_AsManyAsThereMayBe(t *testing.T) {
	for _, n := range []int{15, 16} {
		a := run(base(), times(n, straight("d", "x"))...)
		c := done(t, fmt.Sprint(n), a)
		if len(a.out) != n || len(c.Queues[3].Held) != n || a.out[n-1].Tag != n {
			t.Errorf("%d: %+v", n, a)
		}
		if c = done(t, fmt.Sprint(n), run(base(), times(n, api.Op{Kind: tick, N: 3})...)); c.Now != 50+3*n {
			t.Errorf("%d: it is %d", n, c.Now)
		}
	}
	for _, n := range []int{17, 18, 32, 1000} {
		refused(t, fmt.Sprint(n, " that fit"), run(base(), times(n, straight("d", "x"))...), 0, errArg)
		refused(t, fmt.Sprint(n, " that don't"), run(base(), times(n, api.Op{Kind: tick, N: 3})...), 0, errArg)
		refused(t, fmt.Sprint(n, " of zeros"), run(api.Core{}, times(n, api.Op{Kind: tick})...), 0, errArg)
	}
}

// Too many, or a core that can't be: the place is 0 and the error ErrArg, whatever any operation would be refused for.
func TestP12_1_WhichErrorComesFirst(t *testing.T) {
	for _, x := range refusals() {
		for _, n := range []int{17, 18, 40} {
			for _, at := range []int{0, 1, 8, 15, 16} {
				list := times(n, straight("d", "x"))
				list[at] = x.op
				refused(t, fmt.Sprintf("%d, at %d %+v", n, at, x.op), run(base(), list...), 0, errArg)
			}
		}
	}
	for what, c := range wrongCores() {
		for _, x := range refusals() {
			for _, n := range []int{1, 2, 16, 17} {
				for _, at := range []int{0, n - 1} {
					list := times(n, api.Op{Kind: tick})
					list[at] = x.op
					refused(t, fmt.Sprintf("%s, %d, at %d %+v", what, n, at, x.op), run(c, list...), 0, errArg)
				}
			}
		}
		for _, o := range plainOps() {
			refused(t, fmt.Sprintf("%s, %+v", what, o), run(c, o), 0, errArg)
		}
	}
	// Of two that are refused the one ahead counts.
	all := refusals()
	for at, x := range all {
		other := all[(at+3)%len(all)]
		refused(t, fmt.Sprintf("%+v ahead of %+v", x.op, other.op), run(base(), straight("d", "x"), x.op, straight("d", "y"), other.op), 1, x.err)
	}
}

func TestP12_1_ThePlaceThatIsRefused(t *testing.T) {
	for _, n := range []int{1, 2, 3, 15, 16} {
		for at := range n {
			for _, x := range refusals() {
				list := times(n, straight("d", "x"))
				list[at] = x.op
				c := base()
				refused(t, fmt.Sprintf("at %d of %d %+v", at, n, x.op), run(c, list...), at, x.err)
				is(t, "the core that was", c, base())
			}
		}
	}
	// Refused is what those ahead left no room for: c has room for four.
	for n := 5; n <= 16; n++ {
		refused(t, fmt.Sprint(n, " to c"), run(base(), times(n, straight("c", "x"))...), 4, errDeep)
	}
	refused(t, "a tag twice", run(base(), plainOps()[ack], plainOps()[ack]), 1, errNone)
	refused(t, "16 of a kind of its own each", run(base(), append(times(15, api.Op{Kind: tick}), api.Op{Kind: remove, Queue: "e"})...), 15, errNone)
}

// counts: how often lists were refused at a place, and for what.
type counts struct {
	places [maxTx]int
	errs   map[api.Errno]int
}

func TestP12_1_ListsOfAllKinds(t *testing.T) {
	r := rand.New(rand.NewSource(121))
	seen := counts{errs: map[api.Errno]int{}}
	for range 1500 {
		c := someCore(r)
		list := someList(r, c, r.Intn(17), 20)
		got, want := run(c, list...), byHand(c, list...)
		if !same(got, want) {
			t.Fatalf("%+v of\n%+v:\n%+v\nnot\n%+v", list, c, got, want)
		}
		if seen.errs[got.err]++; got.err != ok {
			seen.places[got.place]++
		} else if !core.Good(got.core) {
			t.Fatalf("%+v leads to %+v", list, got.core)
		}
	}
	for place, n := range seen.places {
		if n == 0 {
			t.Errorf("never refused at %d", place)
		}
	}
	for _, err := range []api.Errno{ok, errNone, errDeep, errThere} {
		if seen.errs[err] < 5 {
			t.Errorf("answered %d just %d times", err, seen.errs[err])
		}
	}
}

func TestP12_2_TwoListsAreOne(t *testing.T) {
	r := rand.New(rand.NewSource(122))
	handed, pumped := 0, 0
	for range 600 {
		c := someCore(r)
		list := someList(r, c, r.Intn(17), math.MaxInt)
		whole := run(c, list...)
		done(t, "the whole", whole)
		for cut := range len(list) + 1 {
			first := run(c, list[:cut]...)
			second := run(done(t, "the first one", first), list[cut:]...)
			done(t, "the second one", second)
			second.out = slices.Concat(first.out, second.out)
			if !same(second, whole) {
				t.Fatalf("%+v, cut at %d:\n%+v\nnot\n%+v", list, cut, second, whole)
			}
		}
		if handed += len(whole.out); len(whole.out) > 1 {
			pumped++
		}
	}
	if handed < 600 || pumped < 100 {
		t.Errorf("just %d were handed out, more than one %d times", handed, pumped)
	}
}

// Where one of them is refused, so is the whole, at the same operation; and nothing is done of either.
func TestP12_2_AllOrNone(t *testing.T) {
	r := rand.New(rand.NewSource(123))
	for range 600 {
		c := someCore(r)
		list := someList(r, c, 1+r.Intn(15), math.MaxInt)
		x := one(r, refusal{api.Op{Kind: ack, Queue: "nowhere"}, errNone}, refusal{api.Op{Kind: publish}, errMsg}, refusal{api.Op{Kind: -1}, errArg}, refusal{api.Op{Kind: bind, Queue: "nowhere"}, errNone})
		at := r.Intn(len(list) + 1)
		bad := slices.Insert(slices.Clone(list), at, x.op)
		was := core.Copy(c)
		refused(t, "the whole", run(c, bad...), at, x.err)
		is(t, "the core that was", c, was)
		cut := r.Intn(len(bad) + 1)
		if first := run(c, bad[:cut]...); at < cut {
			refused(t, "the first list", first, at, x.err)
		} else {
			refused(t, "the second list", run(done(t, "the first list", first), bad[cut:]...), at-cut, x.err)
		}
		// What was refused leaves nothing behind it: the list without it goes on from the same core.
		is(t, "without what is refused", run(c, list...), byHand(was, list...))
	}
}

// A transaction of publishes is in every queue, or in none.
func TestP12_2_ManyQueues(t *testing.T) {
	list := []api.Op{{Kind: publish, Msg: rich("n.o", "x")}, straight("c", "y"), {Kind: publish, Msg: rich("n.p", "z")}, plainOps()[ack]}
	c := done(t, "all", run(base(), list...))
	if waits(c, "a") != "six x z" || waits(c, "c") != "x y z" {
		t.Errorf("a: %s, c: %s", waits(c, "a"), waits(c, "c"))
	}
	for at := range list {
		for _, o := range []api.Op{straight("b", "full"), {Kind: publish, Msg: rich("full", "full")}} {
			given := base()
			refused(t, fmt.Sprint("full at ", at), run(given, slices.Insert(slices.Clone(list), at, o)...), at, errDeep)
			is(t, "none", given, base())
		}
	}
}
