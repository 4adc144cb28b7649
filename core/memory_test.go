package core_test

import (
	"fmt"
	"math"
	"math/rand"
	"reflect"
	"slices"
	"testing"

	"trivet/api"
	"trivet/core"
)

// remade: the same value in memory of its own, each list made by a function of its own from its parts.
func remade(v reflect.Value, list func(v reflect.Value) reflect.Value) reflect.Value {
	switch v.Kind() {
	case reflect.Slice:
		l := list(v)
		for at := range l.Len() {
			l.Index(at).Set(remade(l.Index(at), list))
		}
		return l
	case reflect.Struct:
		n := reflect.New(v.Type()).Elem()
		for at := range v.NumField() {
			n.Field(at).Set(remade(v.Field(at), list))
		}
		return n
	}
	return v
}

// roomy: the same value, each of whose lists has room behind it in which something stands.
func roomy[T any](x T) T {
	list := func(v reflect.Value) reflect.Value {
		n := reflect.MakeSlice(v.Type(), v.Len()+3, v.Len()+3)
		reflect.Copy(n, v)
		for at := v.Len(); at < n.Len(); at++ {
			junk(n.Index(at))
		}
		return n.Slice(0, v.Len())
	}
	return remade(reflect.ValueOf(x), list).Interface().(T)
}

// whole: all that a value's lists have, their room too, in memory of its own.
func whole[T any](x T) T {
	list := func(v reflect.Value) reflect.Value {
		n := reflect.MakeSlice(v.Type(), v.Cap(), v.Cap())
		reflect.Copy(n, v.Slice(0, v.Cap()))
		return n
	}
	return remade(reflect.ValueOf(x), list).Interface().(T)
}

// junk writes something into all numbers and texts of a value.
func junk(v reflect.Value) {
	switch v.Kind() {
	case reflect.Int:
		v.SetInt(-77)
	case reflect.String:
		v.SetString("written")
	case reflect.Bool:
		v.SetBool(!v.Bool())
	case reflect.Float64:
		v.SetFloat(-77)
	case reflect.Struct:
		for at := range v.NumField() {
			junk(v.Field(at))
		}
	case reflect.Slice:
		if v.IsNil() {
			return
		}
		all := v.Slice(0, v.Cap())
		for at := range all.Len() {
			junk(all.Index(at))
		}
	}
}

// scribble writes over all that is reached from a value's lists, their room too.
func scribble(x any) {
	v := reflect.ValueOf(x)
	switch v.Kind() {
	case reflect.Slice:
		junk(v)
	case reflect.Struct:
		for at := range v.NumField() {
			scribble(v.Field(at).Interface())
		}
	}
}

// stretch is where a list's memory is.
type stretch struct{ from, to uintptr }

// memory: where all lists are that are reached from a value, with their room.
func memory(x any) []stretch {
	var all []stretch
	var look func(v reflect.Value)
	look = func(v reflect.Value) {
		switch v.Kind() {
		case reflect.Struct:
			for at := range v.NumField() {
				look(v.Field(at))
			}
		case reflect.Slice:
			if v.Cap() == 0 {
				return
			}
			all = append(all, stretch{v.Pointer(), v.Pointer() + uintptr(v.Cap())*v.Type().Elem().Size()})
			room := v.Slice(0, v.Cap())
			for at := range room.Len() {
				look(room.Index(at))
			}
		}
	}
	look(reflect.ValueOf(x))
	return all
}

// apart: that no two lists share memory, of these values together.
func apart(t *testing.T, what string, values ...any) {
	t.Helper()
	var all []stretch
	for _, x := range values {
		all = append(all, memory(x)...)
	}
	slices.SortFunc(all, func(a, b stretch) int {
		if a.from < b.from {
			return -1
		}
		return 1
	})
	for at := 1; at < len(all); at++ {
		if all[at].from < all[at-1].to {
			t.Errorf("%s: two lists share memory", what)
			return
		}
	}
}

// calls: operations of all kinds, done and refused, and the calls beside Do.
func calls() map[string]func(api.Core, api.Op) answer {
	list := map[string]func(api.Core, api.Op) answer{
		"Copy":  func(c api.Core, _ api.Op) answer { return answer{core: core.Copy(c)} },
		"Good":  func(c api.Core, _ api.Op) answer { core.Good(c); return answer{} },
		"Strip": func(c api.Core, _ api.Op) answer { return strip(c) },
	}
	add := func(what string, change func(o *api.Op)) {
		list[what] = func(c api.Core, o api.Op) answer { change(&o); return do(c, o) }
	}
	for kind, plain := range plainOps() {
		add(fmt.Sprint("kind ", kind), func(o *api.Op) { m := o.Msg; *o = plain; o.Msg = m })
		add(fmt.Sprint("kind ", kind, " refused"), func(o *api.Op) {
			m := o.Msg
			*o = plain
			o.Msg, o.Queue, o.Text, o.Conn, o.N = m, "e", "A", 8, -1
		})
	}
	add("Publish straight, to be handed out", func(o *api.Op) { o.Kind, o.Queue, o.Keep = publish, "d", true })
	add("Publish to all", func(o *api.Op) { o.Kind, o.Msg.Topic, o.Keep = publish, "n.o", true })
	add("Publish in the place of what is retained", func(o *api.Op) { o.Kind, o.Msg.Topic, o.Keep = publish, "k.a", true })
	add("Publish a packet of a new client", func(o *api.Op) { o.Kind, o.Text, o.N = publish, "new", 3 })
	add("Publish a packet that was there", func(o *api.Op) { o.Kind, o.Text, o.N = publish, "me", 7 })
	add("Publish to a full queue", func(o *api.Op) { o.Kind, o.Msg.Topic = publish, "full" })
	add("Publish of no message", func(o *api.Op) { o.Kind, o.Msg.Topic = publish, "A" })
	add("retained no more", func(o *api.Op) { o.Kind, o.Msg.Topic, o.Msg.Body, o.Keep = publish, "k.a", "", true })
	add("Bind of what is there, with all that is retained", func(o *api.Op) { o.Kind, o.Queue, o.Text, o.Keep = bind, "b", "#", true })
	add("Get, not held", func(o *api.Op) { o.Kind, o.Queue, o.Auto = get, "a", true })
	add("Subscribe, not held", func(o *api.Op) { o.Kind, o.Queue, o.Auto, o.N = subscribe, "a", true, 1 })
	add("Subscribe, a great window", func(o *api.Op) { o.Kind, o.Queue, o.N = subscribe, "a", 32 })
	add("Tick to the end", func(o *api.Op) { o.Kind, o.N = tick, 2000 })
	return list
}

// kinds: cores of which the calls are asked.
func kinds() map[string]api.Core {
	return map[string]api.Core{
		"base": base(), "crowd": crowd(), "zeros": {},
		"pumping":  with(func(c *api.Core) { c.Subs[0].Window, c.Subs[2].Auto = 32, true }),
		"plain":    with(func(c *api.Core) { c.Queues[0].Items[0].Msg.Props, c.Kept[0].Props = nil, []api.Prop{} }),
		"wrong":    with(func(c *api.Core) { c.Now = -1 }),
		"old ones": with(func(c *api.Core) { c.Queues[0].Items[0].Msg.Until = 9 }),
	}
}

func TestP11_6_WhatIsHandedInIsNotChanged(t *testing.T) {
	for kind, c := range kinds() {
		for call, ask := range calls() {
			given, o := roomy(c), roomy(api.Op{Msg: rich("new", "new")})
			before, was := whole(given), whole(o)
			ask(given, o)
			is(t, kind+", "+call+": the core that was handed in", whole(given), before)
			is(t, kind+", "+call+": the operation that was handed in", whole(o), was)
		}
	}
}

func TestP11_6_WhatIsAnsweredIsNewMemory(t *testing.T) {
	for kind, c := range kinds() {
		for call, ask := range calls() {
			what := kind + ", " + call
			given, o := roomy(c), roomy(api.Op{Msg: rich("new", "new")})
			first, second := ask(given, o), ask(given, o)
			apart(t, what, given, o, first.core, first.out, second.core, second.out)
			before, was := whole(given), whole(o)
			want, wantOut := whole(second.core), whole(second.out)
			// An answer that is written over changes nothing else, nor does what was handed in.
			scribble(first.core)
			scribble(first.out)
			is(t, what+": the core behind an answer", whole(given), before)
			is(t, what+": the operation behind an answer", whole(o), was)
			scribble(given)
			scribble(o)
			is(t, what+": another answer", whole(second.core), want)
			is(t, what+": what another answer hands out", whole(second.out), wantOut)
		}
	}
}

// Over long rows: each core is written over when the next one is answered, and the row goes on as its twin.
func TestP11_6_LongRowsStayApart(t *testing.T) {
	r := rand.New(rand.NewSource(116))
	for range 120 {
		c := someStart(r)
		for n := range 60 {
			op := someOp(r, c, n)
			given, o := roomy(c), roomy(op)
			before, was := whole(given), whole(o)
			want := twinOf(core.Copy(c)).do(op)
			got := do(given, o)
			is(t, "the core that was handed in", whole(given), before)
			is(t, "the operation that was handed in", whole(o), was)
			apart(t, fmt.Sprintf("%+v", op), given, o, got.core, got.out)
			scribble(given)
			scribble(o)
			if !same(got, want) {
				t.Fatalf("%+v: %+v\nnot %+v", op, got, want)
			}
			if got.err == ok {
				c = got.core
			}
		}
	}
}

// Two cores know nothing of one another, and the same is answered of the same.
func TestP11_6_TheSameOfTheSame(t *testing.T) {
	for kind, c := range kinds() {
		for call, ask := range calls() {
			o := api.Op{Msg: rich("new", "new")}
			first := ask(c, o)
			for _, other := range kinds() {
				ask(other, o)
			}
			is(t, kind+", "+call, ask(core.Copy(c), o), first)
		}
	}
}

// Every call ends at odd arguments, with an error or with a core that can be.
func TestP1_OddArguments(t *testing.T) {
	r := rand.New(rand.NewSource(117))
	ints := []int{math.MinInt, -1, 0, 1, 2, 7, 8, 65535, maxNum, maxNum + 1, math.MaxInt}
	texts := []string{"", "a", "b", "#", "n.*", "me", "A", "\xff", "a.b.c.d.e.f.g.h.i"}
	cores := []api.Core{{}, base(), crowd(), with(func(c *api.Core) { c.Now = maxNum }), {Now: math.MaxInt}, with(func(c *api.Core) { c.Queues[0].Items[0].Seq = math.MinInt })}
	for range 60000 {
		o := api.Op{
			Kind: one(r, 1, 2, 3, 4, 5, 6, 7, 8, 9, 10, 11, 12, 13, 14, one(r, ints...)),
			Conn: one(r, ints...), Sub: one(r, ints...), N: one(r, ints...), Queue: one(r, texts...), Text: one(r, texts...),
			Durable: r.Intn(2) == 0, Auto: r.Intn(2) == 0, Keep: r.Intn(2) == 0,
			Msg: api.Msg{Topic: one(r, texts...), Body: one(r, texts...), Until: one(r, ints...)},
		}
		if a := do(one(r, cores...), o); a.err != ok {
			refused(t, fmt.Sprintf("%+v", o), a, a.err)
		} else if !can(a.core) {
			t.Fatalf("%+v leads to %+v", o, a.core)
		}
	}
}
