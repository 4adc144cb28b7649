package image_test

import (
	"fmt"
	"math/rand"
	"reflect"
	"slices"
	"testing"

	"trivet/api"
	"trivet/image"
)

// remade: the same value in memory of its own, each list made by a function from the one that was.
func remade(v reflect.Value, list func(v reflect.Value) reflect.Value) reflect.Value {
	switch v.Kind() {
	case reflect.Slice:
		l := list(v)
		for at := range l.Len() {
			l.Index(at).Set(remade(l.Index(at), list))
		}
		return l
	case reflect.Struct:
		n := reflect.New(v.Type()).Elem()
		for at := range v.NumField() {
			n.Field(at).Set(remade(v.Field(at), list))
		}
		return n
	}
	return v
}

// roomy: the same value, each of whose lists has room behind it in which something stands.
func roomy[T any](x T) T {
	list := func(v reflect.Value) reflect.Value {
		n := reflect.MakeSlice(v.Type(), v.Len()+3, v.Len()+3)
		reflect.Copy(n, v)
		for at := v.Len(); at < n.Len(); at++ {
			junk(n.Index(at))
		}
		return n.Slice(0, v.Len())
	}
	return remade(reflect.ValueOf(x), list).Interface().(T)
}

// whole: all that a value's lists have, their room too, in memory of its own.
func whole[T any](x T) T {
	list := func(v reflect.Value) reflect.Value {
		n := reflect.MakeSlice(v.Type(), v.Cap(), v.Cap())
		reflect.Copy(n, v.Slice(0, v.Cap()))
		return n
	}
	return remade(reflect.ValueOf(x), list).Interface().(T)
}

// junk writes something into all numbers and texts of a value.
func junk(v reflect.Value) {
	switch v.Kind() {
	case reflect.Int:
		v.SetInt(-77)
	case reflect.Uint8:
		v.SetUint(^v.Uint() & 255)
	case reflect.String:
		v.SetString("written")
	case reflect.Bool:
		v.SetBool(!v.Bool())
	case reflect.Float64:
		v.SetFloat(-77)
	case reflect.Struct:
		for at := range v.NumField() {
			junk(v.Field(at))
		}
	case reflect.Slice:
		if v.IsNil() {
			return
		}
		all := v.Slice(0, v.Cap())
		for at := range all.Len() {
			junk(all.Index(at))
		}
	}
}

// scribble writes over all that is reached from a value's lists, their room too.
func scribble(x any) {
	v := reflect.ValueOf(x)
	switch v.Kind() {
	case reflect.Slice:
		junk(v)
	case reflect.Struct:
		for at := range v.NumField() {
			scribble(v.Field(at).Interface())
		}
	}
}

// stretch is where a list's memory is.
type stretch struct{ from, to uintptr }

// memory: where all lists are that are reached from a value, with their room.
func memory(x any) []stretch {
	var all []stretch
	var look func(v reflect.Value)
	look = func(v reflect.Value) {
		switch v.Kind() {
		case reflect.Struct:
			for at := range v.NumField() {
				look(v.Field(at))
			}
		case reflect.Slice:
			if v.Cap() == 0 {
				return
			}
			all = append(all, stretch{v.Pointer(), v.Pointer() + uintptr(v.Cap())*v.Type().Elem().Size()})
			room := v.Slice(0, v.Cap())
			for at := range room.Len() {
				look(room.Index(at))
			}
		}
	}
	look(reflect.ValueOf(x))
	return all
}

// apart: that no two lists share memory, of these values together.
func apart(t *testing.T, what string, values ...any) {
	t.Helper()
	var all []stretch
	for _, x := range values {
		all = append(all, memory(x)...)
	}
	slices.SortFunc(all, func(a, b stretch) int {
		if a.from < b.from {
			return -1
		}
		return 1
	})
	for at := 1; at < len(all); at++ {
		if all[at].from < all[at-1].to {
			t.Errorf("%s: two lists share memory", what)
			return
		}
	}
}

// own: that a call leaves what it is handed, with its room, keeps none of it, and answers new memory each time.
func own[A, T any](t *testing.T, what string, call func(A) (T, api.Errno), x A) {
	t.Helper()
	given := roomy(x)
	before := whole(given)
	first := got(call(given))
	is(t, what+": what was handed in", whole(given), before)
	second := got(call(given))
	is(t, what+": the same of the same", second, first)
	apart(t, what, given, first.what, second.what)
	want := whole(second.what)
	// An answer that is written over changes nothing else, nor does what was handed in.
	scribble(first.what)
	is(t, what+": what was handed in, behind an answer", whole(given), before)
	is(t, what+": the same behind an answer", got(call(given)), second)
	scribble(given)
	is(t, what+": another answer", whole(second.what), want)
}

// ownOps, ownCore: so with both ways there and back, of bytes cut short too.
func ownOps(t *testing.T, what string, list []api.Op) {
	t.Helper()
	own(t, what+": Ops", image.Ops, list)
	b := opParts(list...).bytes()
	own(t, what+": ReadOps", image.ReadOps, b)
	own(t, what+": ReadOps of half", image.ReadOps, b[:len(b)/2])
}

func ownCore(t *testing.T, what string, c api.Core) {
	t.Helper()
	own(t, what+": Encode", image.Encode, c)
	b := coreParts(c).bytes()
	own(t, what+": Decode", image.Decode, b)
	own(t, what+": Decode of half", image.Decode, b[:len(b)/2])
}

func TestP13_3_Ops(t *testing.T) {
	for what, o := range rightOps() {
		ownOps(t, what, []api.Op{o})
	}
	for what, o := range wrongOps() {
		if len(o.Queue) > 100 || len(o.Text) > 100 {
			continue
		}
		ownOps(t, what, []api.Op{{Kind: tick}, o})
	}
	for _, n := range []int{0, 1, 2, 16, 17} {
		ownOps(t, fmt.Sprint(n, " operations"), slices.Repeat([]api.Op{{Kind: publish, Msg: rich("a", "b")}}, n))
	}
}

func TestP13_3_Cores(t *testing.T) {
	for what, c := range rightCores() {
		ownCore(t, what, c)
	}
	for what, c := range wrongCores() {
		ownCore(t, what, c)
	}
}

func TestP13_3_Valid(t *testing.T) {
	for _, list := range []map[string]api.Op{rightOps(), wrongOps()} {
		for what, o := range list {
			given := roomy(o)
			before := whole(given)
			first := image.Valid(given)
			is(t, what+": what was handed in", whole(given), before)
			if image.Valid(given) != first {
				t.Errorf("%s: another answer of the same", what)
			}
		}
	}
	// The room behind a list is none of it.
	stray := api.Op{Kind: tick}
	stray.Msg.Props = props(3)[:0]
	if !image.Valid(stray) {
		t.Error("an empty list with room behind it is empty")
	}
	stray.Msg.Props = props(3)[:1]
	if image.Valid(stray) {
		t.Error("a list of one isn't empty")
	}
}

// Over rows of calls, in which all that was handed in and answered is written over as soon as it isn't needed.
func TestP13_3_LongRowsStayApart(t *testing.T) {
	r := rand.New(rand.NewSource(135))
	for range 100 {
		ownCore(t, "some core", someCore(r))
		ownOps(t, "some operations", someList(r, r.Intn(17)))
	}
	c := base()
	for range 50 {
		given := roomy(c)
		b, _ := image.Encode(given)
		scribble(given)
		next, err := image.Decode(b)
		scribble(b)
		if err != ok || !same(next, base()) {
			t.Fatalf("there and back: %d, %+v", err, next)
		}
		c = next
	}
}
