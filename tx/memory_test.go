package tx_test

import (
	"fmt"
	"math"
	"math/rand"
	"reflect"
	"slices"
	"testing"

	"trivet/api"
	"trivet/core"
	"trivet/tx"
)

// remade: the same value in memory of its own, each list made by a function of its own from its parts.
func remade(v reflect.Value, list func(v reflect.Value) reflect.Value) reflect.Value {
	switch v.Kind() {
	case reflect.Slice:
		l := list(v)
		for at := range l.Len() {
			l.Index(at).Set(remade(l.Index(at), list))
		}
		return l
	case reflect.Struct:
		n := reflect.New(v.Type()).Elem()
		for at := range v.NumField() {
			n.Field(at).Set(remade(v.Field(at), list))
		}
		return n
	}
	return v
}

// roomy: the same value, each of whose lists has room behind it in which something stands.
func roomy[T any](x T) T {
	list := func(v reflect.Value) reflect.Value {
		n := reflect.MakeSlice(v.Type(), v.Len()+3, v.Len()+3)
		reflect.Copy(n, v)
		for at := v.Len(); at < n.Len(); at++ {
			junk(n.Index(at))
		}
		return n.Slice(0, v.Len())
	}
	return remade(reflect.ValueOf(x), list).Interface().(T)
}

// whole: all that a value's lists have, their room too, in memory of its own.
func whole[T any](x T) T {
	list := func(v reflect.Value) reflect.Value {
		n := reflect.MakeSlice(v.Type(), v.Cap(), v.Cap())
		reflect.Copy(n, v.Slice(0, v.Cap()))
		return n
	}
	return remade(reflect.ValueOf(x), list).Interface().(T)
}

// junk writes something into all numbers and texts of a value.
func junk(v reflect.Value) {
	switch v.Kind() {
	case reflect.Int:
		v.SetInt(-77)
	case reflect.String:
		v.SetString("written")
	case reflect.Bool:
		v.SetBool(!v.Bool())
	case reflect.Float64:
		v.SetFloat(-77)
	case reflect.Struct:
		for at := range v.NumField() {
			junk(v.Field(at))
		}
	case reflect.Slice:
		if v.IsNil() {
			return
		}
		all := v.Slice(0, v.Cap())
		for at := range all.Len() {
			junk(all.Index(at))
		}
	}
}

// scribble writes over all that is reached from a value's lists, their room too.
func scribble(x any) {
	v := reflect.ValueOf(x)
	switch v.Kind() {
	case reflect.Slice:
		junk(v)
	case reflect.Struct:
		for at := range v.NumField() {
			scribble(v.Field(at).Interface())
		}
	}
}

// stretch is where a list's memory is.
type stretch struct{ from, to uintptr }

// memory: where all lists are that are reached from a value, with their room.
func memory(x any) []stretch {
	var all []stretch
	var look func(v reflect.Value)
	look = func(v reflect.Value) {
		switch v.Kind() {
		case reflect.Struct:
			for at := range v.NumField() {
				look(v.Field(at))
			}
		case reflect.Slice:
			if v.Cap() == 0 {
				return
			}
			all = append(all, stretch{v.Pointer(), v.Pointer() + uintptr(v.Cap())*v.Type().Elem().Size()})
			room := v.Slice(0, v.Cap())
			for at := range room.Len() {
				look(room.Index(at))
			}
		}
	}
	look(reflect.ValueOf(x))
	return all
}

// apart: that no two lists share memory, of these values together.
func apart(t *testing.T, what string, values ...any) {
	t.Helper()
	var all []stretch
	for _, x := range values {
		all = append(all, memory(x)...)
	}
	slices.SortFunc(all, func(a, b stretch) int {
		if a.from < b.from {
			return -1
		}
		return 1
	})
	for at := 1; at < len(all); at++ {
		if all[at].from < all[at-1].to {
			t.Errorf("%s: two lists share memory", what)
			return
		}
	}
}

// lists: lists of operations that are handed to Run, done and refused.
func lists() map[string][]api.Op {
	keep := api.Op{Kind: bind, Queue: "c", Text: "#", Keep: true, Conn: 3}
	list := map[string][]api.Op{
		"none":                 nil,
		"one":                  {straight("c", "x")},
		"handed out":           {straight("d", "x"), straight("d", "y"), plainOps()[get], plainOps()[ack]},
		"16":                   times(16, straight("d", "x")),
		"17":                   times(17, straight("d", "x")),
		"retained":             {keep, plainOps()[publish], keep},
		"refused at first":     {straight("b", "x"), straight("d", "y")},
		"refused in between":   {straight("d", "x"), straight("b", "y"), straight("d", "z")},
		"refused at last":      {straight("d", "x"), straight("a", "y"), straight("c", "z"), straight("b", "y")},
		"no kind in the midst": {straight("d", "x"), {Kind: 15, Msg: rich("n.o", "y")}, straight("d", "z")},
	}
	for kind, o := range plainOps() {
		list[fmt.Sprint("kind ", kind)] = []api.Op{o}
		list[fmt.Sprint("kind ", kind, " and a publish")] = []api.Op{o, straight("c", "x")}
	}
	return list
}

// kinds: cores that are handed to Run.
func kinds() map[string]api.Core {
	return map[string]api.Core{
		"base": base(), "zeros": {},
		"pumping": with(func(c *api.Core) { c.Subs[0].Window, c.Subs[1].Auto = 32, true }),
		"plain":   with(func(c *api.Core) { c.Queues[0].Items[0].Msg.Props, c.Kept[0].Props = nil, []api.Prop{} }),
		"wrong":   with(func(c *api.Core) { c.Now = -1 }),
	}
}

func TestP12_3_RunChangesNothing(t *testing.T) {
	for kind, c := range kinds() {
		for what, list := range lists() {
			given, ops := roomy(c), roomy(list)
			before, were := whole(given), whole(ops)
			run(given, ops...)
			is(t, kind+", "+what+": the core that was handed in", whole(given), before)
			is(t, kind+", "+what+": the operations that were handed in", whole(ops), were)
		}
	}
}

func TestP12_3_RunAnswersNewMemory(t *testing.T) {
	for kind, c := range kinds() {
		for what, list := range lists() {
			what = kind + ", " + what
			given, ops := roomy(c), roomy(list)
			first, second := run(given, ops...), run(given, ops...)
			is(t, what+": the same of the same", second, first)
			apart(t, what, given, ops, first.core, first.out, second.core, second.out)
			before, were := whole(given), whole(ops)
			want, wantOut := whole(second.core), whole(second.out)
			// An answer that is written over changes nothing else, nor does what was handed in.
			scribble(first.core)
			scribble(first.out)
			is(t, what+": the core behind an answer", whole(given), before)
			is(t, what+": the operations behind an answer", whole(ops), were)
			scribble(given)
			scribble(ops)
			is(t, what+": another answer", whole(second.core), want)
			is(t, what+": what another answer hands out", whole(second.out), wantOut)
		}
	}
}

// Over long rows of lists: each core and list is written over when the next core is answered.
func TestP12_3_LongRowsStayApart(t *testing.T) {
	r := rand.New(rand.NewSource(124))
	for range 40 {
		c := someCore(r)
		for range 15 {
			list := someList(r, c, r.Intn(17), 20)
			want := byHand(core.Copy(c), list...)
			given, ops := roomy(c), roomy(list)
			before, were := whole(given), whole(ops)
			got := run(given, ops...)
			is(t, "the core that was handed in", whole(given), before)
			is(t, "the operations that were handed in", whole(ops), were)
			apart(t, "a long row", given, ops, got.core, got.out)
			scribble(given)
			scribble(ops)
			if !same(got, want) {
				t.Fatalf("%+v: %+v\nnot %+v", list, got, want)
			}
			if got.err == ok {
				c = got.core
			}
		}
	}
}

func TestP12_3_AddAndFitsChangeNothing(t *testing.T) {
	for _, n := range []int{0, 1, 7, 15, 16, 17} {
		for _, kind := range []int{publish, ack, nack, tick, 0} {
			list, o := roomy(mixed(n, true)), roomy(api.Op{Kind: kind, Msg: rich("n.o", "new")})
			before, was := whole(list), whole(o)
			add(list, o)
			tx.Fits(o)
			is(t, fmt.Sprint("the list of ", n), whole(list), before)
			is(t, fmt.Sprint("the operation of kind ", kind), whole(o), was)
		}
	}
}

func TestP12_3_AddAnswersNewMemory(t *testing.T) {
	for _, n := range []int{0, 1, 7, 15, 16, 17} {
		for _, props := range [][]api.Prop{nil, {}, rich("a", "b").Props} {
			what := fmt.Sprintf("to %d, %d properties", n, len(props))
			list, o := roomy(mixed(n, true)), roomy(api.Op{Kind: publish, Msg: api.Msg{Topic: "a", Props: props}})
			first, second := add(list, o), add(list, o)
			is(t, what+": the same of the same", second, first)
			apart(t, what, list, o, first.list, second.list)
			before, was, want := whole(list), whole(o), whole(second.list)
			scribble(first.list)
			is(t, what+": the list behind an answer", whole(list), before)
			is(t, what+": the operation behind an answer", whole(o), was)
			scribble(list)
			scribble(o)
			is(t, what+": another answer", whole(second.list), want)
		}
	}
	// Two lists that go on from one know nothing of one another.
	start := add(mixed(5, false), straight("q", "start")).list
	left, right := add(start, straight("q", "left")).list, add(start, straight("q", "right")).list
	if left[6].Msg.Body != "left" || right[6].Msg.Body != "right" || len(start) != 6 {
		t.Errorf("%+v, %+v, %+v", start, left, right)
	}
	// The same operation many times shares nothing with itself.
	o := straight("q", "x")
	var list []api.Op
	for range 16 {
		list = add(list, o).list
	}
	apart(t, "the same operation 16 times", o, list)
}

// Every call ends at odd arguments, with an error or with a core that can be.
func TestP1_OddArguments(t *testing.T) {
	r := rand.New(rand.NewSource(125))
	ints := []int{math.MinInt, -1, 0, 1, 2, 7, 8, 65535, maxNum, maxNum + 1, math.MaxInt}
	texts := []string{"", "a", "b", "#", "n.*", "me", "A", "\xff", "a.b.c.d.e.f.g.h.i"}
	cores := []api.Core{{}, base(), with(func(c *api.Core) { c.Now = maxNum }), {Now: math.MaxInt}, with(func(c *api.Core) { c.Queues[0].Items[0].Seq = math.MinInt })}
	some := func() api.Op {
		return api.Op{
			Kind: one(r, publish, ack, nack, 1+r.Intn(14), one(r, ints...)),
			Conn: one(r, ints...), Sub: one(r, ints...), N: one(r, ints...), Queue: one(r, texts...), Text: one(r, texts...),
			Durable: r.Intn(2) == 0, Auto: r.Intn(2) == 0, Keep: r.Intn(2) == 0,
			Msg: api.Msg{Topic: one(r, texts...), Body: one(r, texts...), Until: one(r, ints...)},
		}
	}
	for range 20000 {
		var list []api.Op
		for range one(r, 0, 1, 2, 3, 16, 17, 18) {
			list = append(list, some())
		}
		o := some()
		if a := add(list, o); a.err == ok && (len(a.list) != len(list)+1 || !tx.Fits(o)) || a.err != ok && len(a.list) != 0 {
			t.Fatalf("Add of %+v to %+v: %+v", o, list, a)
		}
		if a := run(one(r, cores...), list...); a.err != ok {
			refused(t, fmt.Sprintf("%+v", list), a, a.place, a.err)
		} else if !core.Good(a.core) || len(list) > maxTx {
			t.Fatalf("%+v leads to %+v", list, a.core)
		}
	}
}
