package image_test

import (
	"fmt"
	"math"
	"math/rand"
	"slices"
	"strings"
	"testing"

	"trivet/api"
	"trivet/image"
)

// rightOps: operations that can be written down, at their edges.
func rightOps() map[string]api.Op {
	list := map[string]api.Op{}
	for kind := 1; kind <= 14; kind++ {
		o := api.Op{Kind: kind}
		if kind == publish {
			o.Msg = api.Msg{Topic: "a"}
		}
		add := func(what string, change func(o *api.Op)) {
			x := o
			change(&x)
			list[fmt.Sprint("kind ", kind, ": ", what)] = x
		}
		add("nothing else", func(o *api.Op) {})
		for _, n := range []int{0, 1, 6, 7} {
			add(fmt.Sprint("Conn ", n), func(o *api.Op) { o.Conn = n })
		}
		for _, n := range []int{0, 1, 65536, maxNum - 1, maxNum} {
			add(fmt.Sprint("Sub ", n), func(o *api.Op) { o.Sub = n })
			add(fmt.Sprint("N ", n), func(o *api.Op) { o.N = n })
		}
		// Any bytes, not a name's or a pattern's alone.
		for _, s := range []string{"q", "", "A B", "\x00", "0;1:,", "ä\xff", strings.Repeat("x", 15), strings.Repeat("\n", 16)} {
			add(fmt.Sprintf("Queue %q", s), func(o *api.Op) { o.Queue = s })
			add(fmt.Sprintf("Text %q", s), func(o *api.Op) { o.Text = s })
		}
		for _, n := range []int{17, 63, 64} {
			add(fmt.Sprint("Text of ", n), func(o *api.Op) { o.Text = strings.Repeat("#", n) })
		}
		for sum := range 8 {
			add(fmt.Sprint("marks ", sum), func(o *api.Op) { o.Durable, o.Auto, o.Keep = sum&1 > 0, sum&2 > 0, sum&4 > 0 })
		}
		add("an empty list", func(o *api.Op) { o.Msg.Props = []api.Prop{} })
		add("all at once", func(o *api.Op) {
			o.Conn, o.Sub, o.N, o.Queue, o.Text, o.Auto = 7, maxNum, maxNum-1, "queue", "text", true
		})
	}
	for what, m := range rightMsgs() {
		list["a publish of "+what] = api.Op{Kind: publish, Msg: m}
	}
	list["a publish without a body"] = api.Op{Kind: publish, Msg: api.Msg{Topic: "a.b", Durable: true}}
	return list
}

// wrongOps: operations that can't be written down, each for one cause.
func wrongOps() map[string]api.Op {
	list := map[string]api.Op{}
	for _, n := range kindless {
		list[fmt.Sprint("kind ", n)] = api.Op{Kind: n}
		list[fmt.Sprint("kind ", n, " with a message")] = api.Op{Kind: n, Msg: rich("a", "b")}
	}
	for kind := 1; kind <= 14; kind++ {
		o := api.Op{Kind: kind}
		if kind == publish {
			o.Msg = api.Msg{Topic: "a"}
		}
		add := func(what string, change func(o *api.Op)) {
			x := o
			change(&x)
			list[fmt.Sprint("kind ", kind, ": ", what)] = x
		}
		for _, n := range connless {
			add(fmt.Sprint("Conn ", n), func(o *api.Op) { o.Conn = n })
		}
		for _, n := range numless {
			add(fmt.Sprint("Sub ", n), func(o *api.Op) { o.Sub = n })
			add(fmt.Sprint("N ", n), func(o *api.Op) { o.N = n })
		}
		for _, n := range []int{17, 18, 64, 1 << 16} {
			add(fmt.Sprint("Queue of ", n), func(o *api.Op) { o.Queue = strings.Repeat("q", n) })
		}
		for _, n := range []int{65, 66, 1 << 16} {
			add(fmt.Sprint("Text of ", n), func(o *api.Op) { o.Text = strings.Repeat("t", n) })
		}
	}
	for what, m := range wrongMsgs() {
		list["a publish of "+what] = api.Op{Kind: publish, Msg: m}
	}
	list["a publish of nothing"] = api.Op{Kind: publish}
	list["a publish of nothing but a body"] = api.Op{Kind: publish, Msg: api.Msg{Body: "x"}}
	return list
}

// strayMsgs: messages that are not all zeros, in one field each and in all.
func strayMsgs() map[string]api.Msg {
	return map[string]api.Msg{
		"Topic": {Topic: "a"}, "no topic": {Topic: "#"}, "Body": {Body: "x"}, "Durable": {Durable: true},
		"Until": {Until: 1}, "Until below 0": {Until: -1}, "Props": {Props: props(1)}, "a property of zeros": {Props: make([]api.Prop, 1)},
		"all": rich("a.b", "x"),
	}
}

// written: that operations can be written down, as these bytes, and read.
func written(t *testing.T, what string, list ...api.Op) {
	t.Helper()
	b, err := image.Ops(list)
	if want := opParts(list...).bytes(); err != ok || string(b) != string(want) {
		t.Errorf("%s: Ops answers %d, %.300q\nnot %.300q", what, err, b, want)
		return
	}
	is(t, what+": ReadOps", got(image.ReadOps(b)), answer[[]api.Op]{what: list})
}

func TestP13_1_ExamplesOfOps(t *testing.T) {
	for want, list := range map[string][]api.Op{
		"1;14;0;0;3;0;0:,0:,":                  {{Kind: tick, N: 3}},
		"0;":                                   nil,
		"2;13;7;0;0;0;0:,0:,8;1;4;2;2;1:q,0:,": {{Kind: 13, Conn: 7}, {Kind: 8, Conn: 1, Sub: 4, N: 2, Queue: "q", Auto: true}},
		"1;1;0;0;64;1;2:q1,0:,":                {{Kind: 1, Queue: "q1", N: 64, Durable: true}},
		"1;3;5;6;0;4;1:q,3:a.#,":               {{Kind: 3, Conn: 5, Sub: 6, Queue: "q", Text: "a.#", Keep: true}},
		"1;5;0;0;9;5;0:,2:me,3:a.b,0:,1;99;2;1:a,2:i7,1:b,3:f-0,": {{Kind: 5, N: 9, Durable: true, Keep: true, Text: "me",
			Msg: api.Msg{Topic: "a.b", Durable: true, Until: 99, Props: []api.Prop{
				{Name: "a", Value: api.Value{Kind: 1, Num: 7}}, {Name: "b", Value: api.Value{Kind: 4, Real: math.Copysign(0, -1)}}}}}},
	} {
		if b, err := image.Ops(list); err != ok || string(b) != want {
			t.Errorf("Ops answers %d, %q, not %q", err, b, want)
		}
		is(t, want, got(image.ReadOps([]byte(want))), answer[[]api.Op]{what: list})
	}
	// What is nil and what is empty is the same.
	for _, list := range [][]api.Op{nil, {}} {
		written(t, "no operation", list...)
	}
	for _, b := range [][]byte{nil, {}} {
		refused(t, "no byte", got(image.ReadOps(b)), errForm)
	}
}

func TestP13_1_OpsThatCanBeWrittenDown(t *testing.T) {
	for what, o := range rightOps() {
		if !image.Valid(o) || !canOp(o) {
			t.Errorf("%s: can be written down", what)
		}
		written(t, what, o)
		written(t, what+", in between", api.Op{Kind: tick, N: 3}, o, api.Op{Kind: publish, Msg: rich("x", "y")})
	}
}

func TestP13_1_OpsThatCannotBeWrittenDown(t *testing.T) {
	for what, o := range wrongOps() {
		if image.Valid(o) || canOp(o) {
			t.Errorf("%s: can't be written down", what)
		}
		refused(t, what, got(image.Ops([]api.Op{o})), errArg)
		refused(t, what+": its bytes", got(image.ReadOps(opParts(o).bytes())), errForm)
		list := []api.Op{{Kind: tick}, o, {Kind: publish, Msg: rich("x", "y")}}
		refused(t, what+": in between", got(image.Ops(list)), errArg)
		refused(t, what+": its bytes in between", got(image.ReadOps(opParts(list...).bytes())), errForm)
	}
}

func TestP13_1_PublishesOfBlurredMessages(t *testing.T) {
	for what, m := range blurredMsgs() {
		o := api.Op{Kind: publish, Msg: m}
		if image.Valid(o) || canOp(o) {
			t.Errorf("%s: can't be written down", what)
		}
		refused(t, what, got(image.Ops([]api.Op{o})), errArg)
		refused(t, what+": in between", got(image.Ops([]api.Op{{Kind: tick}, o, {Kind: tick}})), errArg)
	}
}

func TestP13_1_MessagesOfNoPublish(t *testing.T) {
	for kind := 1; kind <= 14; kind++ {
		if kind == publish {
			continue
		}
		for what, m := range strayMsgs() {
			what = fmt.Sprint("kind ", kind, ", ", what)
			o := api.Op{Kind: kind, Msg: m}
			if image.Valid(o) {
				t.Errorf("%s: can't be written down", what)
			}
			refused(t, what, got(image.Ops([]api.Op{o})), errArg)
			var p parts
			p.msg(m)
			b := append(opParts(api.Op{Kind: kind}).bytes(), p.bytes()...)
			refused(t, what+": bytes with the message", got(image.ReadOps(b)), errForm)
		}
	}
	bare := parts(opParts(api.Op{Kind: publish, Queue: "q"})[:8]).bytes()
	refused(t, "a publish without its message", got(image.ReadOps(bare)), errForm)
	refused(t, "a publish without its message, and another operation", got(image.ReadOps([]byte("2"+string(bare[1:])+"14;0;0;3;0;0:,0:,"))), errForm)
}

func TestP13_1_HowManyOps(t *testing.T) {
	right, stray := api.Op{Kind: publish, Queue: "q", Msg: rich("x", "y")}, api.Op{Kind: 15}
	for _, n := range []int{0, 1, 2, 15, 16} {
		list := slices.Repeat([]api.Op{right}, n)
		written(t, fmt.Sprint(n, " publishes"), list...)
		written(t, fmt.Sprint(n, " ticks"), slices.Repeat([]api.Op{{Kind: tick}}, n)...)
		// Each place counts.
		for at := range list {
			wrong := slices.Clone(list)
			wrong[at] = stray
			refused(t, fmt.Sprint(n, ", a wrong one at ", at), got(image.Ops(wrong)), errArg)
			refused(t, fmt.Sprint(n, ", a wrong one at ", at, ": its bytes"), got(image.ReadOps(opParts(wrong...).bytes())), errForm)
		}
	}
	for _, n := range []int{17, 18, 32, 256, 1 << 12, 1<<16 + 1} {
		for _, o := range []api.Op{right, {Kind: tick}, stray, {}} {
			list := slices.Repeat([]api.Op{o}, n)
			refused(t, fmt.Sprint(n, " operations"), got(image.Ops(list)), errArg)
			refused(t, fmt.Sprint(n, " operations: their bytes"), got(image.ReadOps(opParts(list...).bytes())), errForm)
		}
	}
}

func TestP13_2_SomeOps(t *testing.T) {
	r := rand.New(rand.NewSource(131))
	for range 2000 {
		list := someList(r, r.Intn(17))
		written(t, "some operations", list...)
	}
	long := api.Op{Kind: publish, Queue: strings.Repeat("q", 16), Text: strings.Repeat("t", 64), Msg: rich("a", strings.Repeat("x", 256))}
	long.Msg.Props = props(16)
	for at := range long.Msg.Props {
		long.Msg.Props[at].Value = api.Value{Kind: 3, Text: strings.Repeat("v", 256)}
	}
	written(t, "the longest", slices.Repeat([]api.Op{long}, 16)...)
}

// Of arguments at all edges at once: what the chapter says, told once more.
func TestP1_OddOps(t *testing.T) {
	r := rand.New(rand.NewSource(132))
	ints := []int{math.MinInt, -1, 0, 0, 1, 1, 5, 5, 7, 8, 14, 15, maxNum, maxNum + 1, math.MaxInt}
	texts := []string{"", "", "a", "a", "#", "\xff", strings.Repeat("x", 16), strings.Repeat("x", 17), strings.Repeat("x", 65)}
	valid := 0
	for range 50000 {
		o := api.Op{
			Kind: one(r, one(r, ints...), 5, 8, 14), Conn: one(r, one(r, ints...), 0, 3), Sub: one(r, one(r, ints...), 0), N: one(r, one(r, ints...), 2),
			Queue: one(r, texts...), Text: one(r, texts...), Keep: r.Intn(2) == 0,
		}
		if r.Intn(2) == 0 {
			o.Msg = api.Msg{Topic: one(r, texts...), Body: one(r, texts...), Durable: r.Intn(2) == 0, Until: one(r, ints...), Props: props(one(r, 0, 1, 16, 17))}
		}
		want := canOp(o)
		if image.Valid(o) != want {
			t.Fatalf("%+v: %v", o, !want)
		}
		if want {
			valid++
			written(t, "an odd operation", o)
			continue
		}
		refused(t, "an odd operation", got(image.Ops([]api.Op{o})), errArg)
	}
	if valid < 2000 {
		t.Errorf("only %d could be written down", valid)
	}
}
