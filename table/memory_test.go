package table_test

import (
	"math/rand"
	"reflect"
	"slices"
	"strings"
	"testing"
	"unsafe"

	"trivet/api"
	"trivet/table"
)

// remade: the same value in memory of its own, each list made by a function of its own from its parts.
func remade(v reflect.Value, list func(v reflect.Value) reflect.Value) reflect.Value {
	switch v.Kind() {
	case reflect.Slice:
		l := list(v)
		for at := range l.Len() {
			l.Index(at).Set(remade(l.Index(at), list))
		}
		return l
	case reflect.Struct:
		n := reflect.New(v.Type()).Elem()
		for at := range v.NumField() {
			n.Field(at).Set(remade(v.Field(at), list))
		}
		return n
	}
	return v
}

// roomy: the same value, each of whose lists has room behind it in which something stands.
func roomy[T any](x T) T {
	list := func(v reflect.Value) reflect.Value {
		n := reflect.MakeSlice(v.Type(), v.Len()+3, v.Len()+3)
		reflect.Copy(n, v)
		for at := v.Len(); at < n.Len(); at++ {
			junk(n.Index(at))
		}
		return n.Slice(0, v.Len())
	}
	return remade(reflect.ValueOf(x), list).Interface().(T)
}

// full: all that a value's lists have, their room too, in memory of its own.
func full[T any](x T) T {
	list := func(v reflect.Value) reflect.Value {
		n := reflect.MakeSlice(v.Type(), v.Cap(), v.Cap())
		reflect.Copy(n, v.Slice(0, v.Cap()))
		return n
	}
	return remade(reflect.ValueOf(x), list).Interface().(T)
}

// junk writes something into all numbers and texts of a value.
func junk(v reflect.Value) {
	switch v.Kind() {
	case reflect.Int:
		v.SetInt(-77)
	case reflect.String:
		v.SetString("written")
	case reflect.Bool:
		v.SetBool(!v.Bool())
	case reflect.Float64:
		v.SetFloat(-77)
	case reflect.Struct:
		for at := range v.NumField() {
			junk(v.Field(at))
		}
	case reflect.Slice:
		if v.IsNil() {
			return
		}
		all := v.Slice(0, v.Cap())
		for at := range all.Len() {
			junk(all.Index(at))
		}
	}
}

// scribble writes over all that is reached from a value's lists, their room too.
func scribble(x any) {
	v := reflect.ValueOf(x)
	switch v.Kind() {
	case reflect.Slice:
		junk(v)
	case reflect.Struct:
		for at := range v.NumField() {
			scribble(v.Field(at).Interface())
		}
	}
}

// stretch is where a list's memory is.
type stretch struct{ from, to uintptr }

// memory: where all lists are that are reached from a value, with their room.
func memory(x any) []stretch {
	var all []stretch
	var look func(v reflect.Value)
	look = func(v reflect.Value) {
		switch v.Kind() {
		case reflect.Struct:
			for at := range v.NumField() {
				look(v.Field(at))
			}
		case reflect.Slice:
			if v.Cap() == 0 {
				return
			}
			all = append(all, stretch{v.Pointer(), v.Pointer() + uintptr(v.Cap())*v.Type().Elem().Size()})
			room := v.Slice(0, v.Cap())
			for at := range room.Len() {
				look(room.Index(at))
			}
		}
	}
	look(reflect.ValueOf(x))
	return all
}

// apart: that no two lists share memory, of these values together.
func apart(t *testing.T, what string, values ...any) {
	t.Helper()
	var all []stretch
	for _, x := range values {
		all = append(all, memory(x)...)
	}
	slices.SortFunc(all, func(a, b stretch) int {
		if a.from < b.from {
			return -1
		}
		return 1
	})
	for at := 1; at < len(all); at++ {
		if all[at].from < all[at-1].to {
			t.Errorf("%s: two lists share memory", what)
			return
		}
	}
}

// strung: that no text of an answer lies in the bytes that were read.
func strung(t *testing.T, what, s string, list ...string) {
	t.Helper()
	from := uintptr(unsafe.Pointer(unsafe.StringData(s)))
	for _, x := range list {
		at := uintptr(unsafe.Pointer(unsafe.StringData(x)))
		if x != "" && from <= at && at < from+uintptr(len(s)) {
			t.Errorf("%s: %.100q shares memory with what was read", what, x)
		}
	}
}

// textsOf: all texts of a list.
func textsOf(list []api.Prop) []string {
	var all []string
	for _, p := range list {
		all = append(all, p.Name, p.Value.Text)
	}
	return all
}

func TestP15_4_Put(t *testing.T) {
	lists := wrong()
	lists["none"] = nil
	lists["one"] = []api.Prop{{Name: "a", Value: truth(1)}}
	lists["some"] = []api.Prop{{Name: "a", Value: truth(1)}, {Name: "b", Value: text("hi")}, {Name: "c", Value: real(0.1)}, {Name: "d", Value: whole(-1)}}
	for what, list := range lists {
		for _, ahead := range []string{"", "a", strings.Repeat("ahead", 100)} {
			for _, room := range []int{0, 3, 4, 5, 10000} {
				// In the room behind b stands something, and b isn't from the memory's beginning.
				b := []byte("xx" + ahead + strings.Repeat("y", room))[2 : 2+len(ahead)]
				in := roomy(list)
				beforeB, beforeIn := full(b), full(in)
				out, err := table.Put(b, in)
				is(t, what+": the bytes handed in", full(b), beforeB)
				is(t, what+": the list handed in", full(in), beforeIn)
				apart(t, what, b, in, out)
				if err != ok {
					is(t, what, len(out), 0)
					continue
				}
				want := string(out)
				again, _ := table.Put(b, in)
				apart(t, what, b, in, out, again)
				scribble(b)
				scribble(in)
				is(t, what+": behind what the caller wrote", string(out), want)
				scribble(out)
				is(t, what+": another answer", string(again), want)
			}
		}
	}
	// Nil and empty mean the same.
	for _, b := range [][]byte{nil, {}} {
		for _, list := range [][]api.Prop{nil, {}} {
			out, err := table.Put(b, list)
			is(t, "nothing", puts{string(out), err}, puts{"\x00\x00\x00\x00", ok})
		}
	}
}

func TestP15_4_Encode(t *testing.T) {
	for _, k := range kinds() {
		for _, spoil := range []func(m *api.Method){
			func(*api.Method) {},
			func(m *api.Method) { m.Nums = append(m.Nums, 5) },
			func(m *api.Method) { m.Texts = append(m.Texts, "x") },
			func(m *api.Method) { m.Props = []api.Prop{{Name: "b", Value: truth(1)}, {Name: "a", Value: truth(1)}} },
			func(m *api.Method) { m.Id = -1 },
		} {
			m := plain(k)
			spoil(&m)
			m = roomy(m)
			before := full(m)
			b, err := table.Encode(m)
			is(t, k.name+": what was handed in", full(m), before)
			if err != ok {
				is(t, k.name, len(b), 0)
				continue
			}
			want := string(b)
			again, _ := table.Encode(m)
			apart(t, k.name, m, b, again)
			scribble(m)
			is(t, k.name+": behind what the caller wrote", string(b), want)
			scribble(b)
			is(t, k.name+": another answer", string(again), want)
		}
	}
}

func TestP15_4_TakeAndDecode(t *testing.T) {
	r := rand.New(rand.NewSource(160))
	for range 2000 {
		m := someMethod(r)
		b := encode(m).b
		kept := strings.Clone(b)
		first, second := decode(b), decode(b)
		is(t, "what was handed in", b, kept)
		apart(t, "Decode", first.m, second.m)
		strung(t, "Decode", b, append(textsOf(first.m.Props), first.m.Texts...)...)
		scribble(first.m)
		is(t, "another answer", second.m, m)
		is(t, "a later answer", decode(b).m, m)

		list := someProps(r)
		b = put("", list).b
		kept = strings.Clone(b)
		one, two := take(b), take(b)
		is(t, "what was handed in", b, kept)
		apart(t, "Take", one.list, two.list)
		strung(t, "Take", b, textsOf(one.list)...)
		scribble(one.list)
		is(t, "another answer", two.list, list)
		is(t, "a later answer", take(b).list, list)
	}
}
