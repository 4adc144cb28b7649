package keep_test

import (
	"fmt"
	"math/rand"
	"reflect"
	"slices"
	"testing"

	"trivet/api"
	"trivet/core"
	"trivet/drum"
)

// remade: the same value in memory of its own, each list made by a function of its own from its parts.
func remade(v reflect.Value, list func(v reflect.Value) reflect.Value) reflect.Value {
	switch v.Kind() {
	case reflect.Slice:
		l := list(v)
		for at := range l.Len() {
			l.Index(at).Set(remade(l.Index(at), list))
		}
		return l
	case reflect.Struct:
		n := reflect.New(v.Type()).Elem()
		for at := range v.NumField() {
			n.Field(at).Set(remade(v.Field(at), list))
		}
		return n
	}
	return v
}

// roomy: the same value, each of whose lists has room behind it in which something stands.
func roomy[T any](x T) T {
	list := func(v reflect.Value) reflect.Value {
		n := reflect.MakeSlice(v.Type(), v.Len()+3, v.Len()+3)
		reflect.Copy(n, v)
		for at := v.Len(); at < n.Len(); at++ {
			junk(n.Index(at))
		}
		return n.Slice(0, v.Len())
	}
	return remade(reflect.ValueOf(x), list).Interface().(T)
}

// whole: all that a value's lists have, their room too, in memory of its own.
func whole[T any](x T) T {
	list := func(v reflect.Value) reflect.Value {
		n := reflect.MakeSlice(v.Type(), v.Cap(), v.Cap())
		reflect.Copy(n, v.Slice(0, v.Cap()))
		return n
	}
	return remade(reflect.ValueOf(x), list).Interface().(T)
}

// junk writes something into all numbers and texts of a value.
func junk(v reflect.Value) {
	switch v.Kind() {
	case reflect.Int:
		v.SetInt(-77)
	case reflect.String:
		v.SetString("written")
	case reflect.Bool:
		v.SetBool(!v.Bool())
	case reflect.Float64:
		v.SetFloat(-77)
	case reflect.Struct:
		for at := range v.NumField() {
			junk(v.Field(at))
		}
	case reflect.Slice:
		if v.IsNil() {
			return
		}
		all := v.Slice(0, v.Cap())
		for at := range all.Len() {
			junk(all.Index(at))
		}
	}
}

// scribble writes over all that is reached from a value's lists, their room too.
func scribble(x any) {
	v := reflect.ValueOf(x)
	switch v.Kind() {
	case reflect.Slice:
		junk(v)
	case reflect.Struct:
		for at := range v.NumField() {
			scribble(v.Field(at).Interface())
		}
	}
}

// stretch is where a list's memory is.
type stretch struct{ from, to uintptr }

// memory: where all lists are that are reached from a value, with their room.
func memory(x any) []stretch {
	var all []stretch
	var look func(v reflect.Value)
	look = func(v reflect.Value) {
		switch v.Kind() {
		case reflect.Struct:
			for at := range v.NumField() {
				look(v.Field(at))
			}
		case reflect.Slice:
			if v.Cap() == 0 {
				return
			}
			all = append(all, stretch{v.Pointer(), v.Pointer() + uintptr(v.Cap())*v.Type().Elem().Size()})
			room := v.Slice(0, v.Cap())
			for at := range room.Len() {
				look(room.Index(at))
			}
		}
	}
	look(reflect.ValueOf(x))
	return all
}

// apart: that no two lists share memory, of these values together.
func apart(t *testing.T, what string, values ...any) {
	t.Helper()
	var all []stretch
	for _, x := range values {
		all = append(all, memory(x)...)
	}
	slices.SortFunc(all, func(a, b stretch) int {
		if a.from < b.from {
			return -1
		}
		return 1
	})
	for at := 1; at < len(all); at++ {
		if all[at].from < all[at-1].to {
			t.Errorf("%s: two lists share memory", what)
			return
		}
	}
}

// handed: lists of operations that are handed in behind start, done and refused.
func handed() map[string][]api.Op {
	get := api.Op{Kind: get, Conn: 2, Sub: 5, Queue: "a"}
	kept := api.Op{Kind: bind, Queue: "a", Text: "#", Keep: true, Conn: 3, Sub: 1}
	rest := api.Op{Kind: publish, Keep: true, Text: "you", N: 9, Msg: rich("k", "another", true)}
	return map[string][]api.Op{
		"none":                    nil,
		"one":                     {{Kind: publish, Queue: "a", Msg: rich("n.o", "new", true)}},
		"handed out":              {{Kind: publish, Queue: "a", Msg: rich("n.o", "new", true)}, get, get, get},
		"not held":                {{Kind: publish, Queue: "a", Msg: rich("n.o", "new", true)}, {Kind: subscribe, Conn: 2, Queue: "a", N: 2, Auto: true}},
		"retained":                {kept, rest, kept},
		"one many times":          times(5, api.Op{Kind: publish, Queue: "a", Msg: rich("n.o", "new", true)}),
		"17":                      times(17, rest),
		"can't be written down":   {rest, {Kind: publish, Msg: rich("A", "new", true)}},
		"refused":                 {rest, {Kind: publish, Queue: "none", Msg: rich("n.o", "new", true)}},
		"a message that isn't so": {{Kind: tick, Msg: rich("n.o", "new", true)}},
		"too deep":                times(10, api.Op{Kind: publish, Queue: "a", Msg: rich("n.o", "new", true)}),
	}
}

func TestP14_5_WhatIsHandedIn(t *testing.T) {
	lists := handed()
	lists["too long"] = greatest(t, most+1)
	for what, list := range lists {
		for _, way := range []string{"on", "off", "going", "full"} {
			what := fmt.Sprintf("%s, the power %s", what, way)
			pages := 60
			if way == "full" {
				pages = 9
			}
			d := drum.New(pages)
			k := opened(t, d)
			done(t, k, start()...)
			ops := roomy(list)
			before := whole(ops)
			want := k.Core()
			switch way {
			case "off":
				d.Off(0)
			case "going":
				d.Arm(3, 300)
			case "full":
				for do(k, later(0)).err == ok {
				}
			}
			a := do(k, ops...)
			is(t, what+": what was handed in", whole(ops), before)
			if a.err == ok {
				want = behind(t, want, list...)
			}
			apart(t, what, ops, a.out, k.Core())
			// What the caller writes now isn't seen.
			scribble(ops)
			is(t, what+": the core", k.Core(), want)
			d.On()
			d.Arm(0, 0)
			if k = opened(t, d); way != "going" {
				is(t, what+": what is found", k.Core(), left(t, want))
			}
		}
	}
}

func TestP14_5_WhatIsAnsweredIsNewMemory(t *testing.T) {
	for what, list := range handed() {
		list = roomy(list)
		d := drum.New(60)
		k := opened(t, d)
		done(t, k, start()...)
		c := k.Core()
		a := do(k, list...)
		want := roomy(a.out)
		if a.err == ok {
			c = behind(t, c, list...)
		}
		first, second := k.Core(), k.Core()
		apart(t, what, a.out, list, first, second)
		scribble(a.out)
		is(t, what+": a core behind an answer", first, c)
		is(t, what+": the Keep behind an answer", k.Core(), c)
		scribble(first)
		is(t, what+": another core", second, c)
		is(t, what+": the Keep behind a core", k.Core(), c)
		scribble(second)
		fine(t, what, k.Save())
		is(t, what+": the Keep", k.Core(), c)
		finds(t, what, d, left(t, c), k.Count()+1)
		if a.err == ok {
			// The same of another Keep shares nothing with it, nor is it another one.
			e := drum.New(60)
			l := opened(t, e)
			done(t, l, start()...)
			b := do(l, list...)
			is(t, what+": what is handed out", b.out, want)
			apart(t, what, a.out, b.out, l.Core(), k.Core())
		}
	}
}

// What is written over an answer isn't seen in those of later calls either.
func TestP14_5_LongRowsStayApart(t *testing.T) {
	r := rand.New(rand.NewSource(147))
	for range 30 {
		d := drum.New(600)
		k := opened(t, d)
		var c api.Core
		for range 25 {
			list := someList(r, c, 1+r.Intn(6), 50)
			if after, _, _, err := runOf(c, list); err == ok {
				c = after
			}
			ops := roomy(list)
			a := do(k, ops...)
			answered := k.Core()
			apart(t, "a row", ops, a.out, answered, k.Core())
			is(t, "the core", answered, c)
			scribble(ops)
			scribble(a.out)
			scribble(answered)
			switch r.Intn(8) {
			case 0:
				fine(t, "Save", k.Save())
			case 1:
				d.Off(0)
				d.On()
				k = opened(t, d)
				c = left(t, c)
			}
			is(t, "the core, behind all", k.Core(), c)
		}
	}
}

// runOf: layer 11's operations one behind the other.
func runOf(c api.Core, list []api.Op) (after api.Core, out []api.Out, at int, err api.Errno) {
	after = core.Copy(c)
	for at, o := range list {
		next, more, err := core.Do(after, o)
		if err != ok {
			return api.Core{}, nil, at, err
		}
		after, out = next, append(out, more...)
	}
	return after, out, 0, ok
}

// Two Keeps on drums of their own know nothing of one another.
func TestP14_5_TwoKeeps(t *testing.T) {
	drums := []*drum.Drum{drum.New(30), drum.New(30)}
	one, two := opened(t, drums[0]), opened(t, drums[1])
	done(t, one, start()...)
	holds(t, "the other", two, api.Core{}, 0)
	done(t, two, later(7))
	fine(t, "Save", one.Save())
	holds(t, "the other", two, api.Core{Now: 7}, 1)
	drums[0].Arm(1, 0)
	is(t, "Do", do(one, later(1)), answer{err: errDown})
	done(t, two, later(7))
	holds(t, "the other", two, api.Core{Now: 14}, 2)
	holds(t, "the one", one, behind(t, api.Core{}, start()...), 0)
}
