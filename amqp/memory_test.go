package amqp_test

import (
	"fmt"
	"reflect"
	"slices"
	"testing"

	"trivet/amqp"
	"trivet/api"
)

// rebuilt: the same value in memory of its own, each list made by a function of its own from its parts.
func rebuilt(v reflect.Value, list func(v reflect.Value) reflect.Value) reflect.Value {
	switch v.Kind() {
	case reflect.Slice:
		l := list(v)
		for at := range l.Len() {
			l.Index(at).Set(rebuilt(l.Index(at), list))
		}
		return l
	case reflect.Struct:
		n := reflect.New(v.Type()).Elem()
		for at := range v.NumField() {
			n.Field(at).Set(rebuilt(v.Field(at), list))
		}
		return n
	}
	return v
}

// roomy: the same value, each of whose lists has room behind it in which something stands.
func roomy[T any](x T) T {
	list := func(v reflect.Value) reflect.Value {
		n := reflect.MakeSlice(v.Type(), v.Len()+3, v.Len()+3)
		reflect.Copy(n, v)
		for at := v.Len(); at < n.Len(); at++ {
			junk(n.Index(at))
		}
		return n.Slice(0, v.Len())
	}
	return rebuilt(reflect.ValueOf(x), list).Interface().(T)
}

// full: all that a value's lists have, their room too, in memory of its own.
func full[T any](x T) T {
	list := func(v reflect.Value) reflect.Value {
		n := reflect.MakeSlice(v.Type(), v.Cap(), v.Cap())
		reflect.Copy(n, v.Slice(0, v.Cap()))
		return n
	}
	return rebuilt(reflect.ValueOf(x), list).Interface().(T)
}

// junk writes something into all numbers, texts and truths of a value, and over its lists.
func junk(v reflect.Value) {
	switch v.Kind() {
	case reflect.Int:
		v.SetInt(-77)
	case reflect.Uint8:
		v.SetUint(77)
	case reflect.String:
		v.SetString("written")
	case reflect.Bool:
		v.SetBool(!v.Bool())
	case reflect.Float64:
		v.SetFloat(-77)
	case reflect.Struct:
		for at := range v.NumField() {
			junk(v.Field(at))
		}
	case reflect.Slice:
		if v.IsNil() {
			return
		}
		all := v.Slice(0, v.Cap())
		for at := range all.Len() {
			junk(all.Index(at))
		}
	}
}

// scribble writes over all that is reached from a value's lists, their room too.
func scribble(x any) {
	v := reflect.ValueOf(x)
	switch v.Kind() {
	case reflect.Slice:
		junk(v)
	case reflect.Struct:
		for at := range v.NumField() {
			scribble(v.Field(at).Interface())
		}
	}
}

// stretch is where a list's memory is.
type stretch struct{ from, to uintptr }

// memory: where all lists are that are reached from a value, with their room.
func memory(x any) []stretch {
	var all []stretch
	var look func(v reflect.Value)
	look = func(v reflect.Value) {
		switch v.Kind() {
		case reflect.Struct:
			for at := range v.NumField() {
				look(v.Field(at))
			}
		case reflect.Slice:
			if v.Cap() == 0 {
				return
			}
			all = append(all, stretch{v.Pointer(), v.Pointer() + uintptr(v.Cap())*v.Type().Elem().Size()})
			room := v.Slice(0, v.Cap())
			for at := range room.Len() {
				look(room.Index(at))
			}
		}
	}
	look(reflect.ValueOf(x))
	return all
}

// apart: that no two lists share memory, of these values together.
func apart(t *testing.T, what string, values ...any) {
	t.Helper()
	var all []stretch
	for _, x := range values {
		all = append(all, memory(x)...)
	}
	slices.SortFunc(all, func(a, b stretch) int {
		if a.from < b.from {
			return -1
		}
		return 1
	})
	for at := 1; at < len(all); at++ {
		if all[at].from < all[at-1].to {
			t.Errorf("%s: two lists share memory", what)
			return
		}
	}
}

// Answers of the calls, of which all parts are looked at.
type (
	nexted struct {
		S     api.Amqp
		Acts  []api.Act
		Heard bool
	}
	telling struct {
		S    api.Amqp
		Acts []api.Act
	}
	giving struct {
		S api.Amqp
		B []byte
	}
	losing struct{ Ops []api.Op }
)

// keeps: that a call neither changes nor keeps what is handed in, and that each of its answers is new memory.
func keeps[In, Out any](t *testing.T, what string, in In, call func(In) Out) {
	t.Helper()
	want := call(in)
	in = roomy(in)
	before := full(in)
	first, second := call(in), call(in)
	is(t, what+": what was handed in", full(in), before)
	apart(t, what, in, first, second)
	is(t, what+": the first answer", first, want)
	scribble(first)
	is(t, what+": the second answer", second, want)
	is(t, what+": what was handed in, behind what the caller wrote", full(in), before)
	is(t, what+": a later answer", call(in), want)
	scribble(in)
	is(t, what+": behind what the caller wrote into what was handed in", second, want)
}

// heardFrames: frames of all that is heard.
func heardFrames() map[string]string {
	list := map[string]string{
		"nothing": "", "half a frame": on1("tx.commit")[:9], "no frame": "GET /", "the greeting": greeting, "a beat": frame(8, 0, ""), "a beat on 1": frame(8, 1, ""),
		"no method": frame(1, 0, ""), "publish": on1("basic.publish", 0, "amq.topic", "a"), "elsewhere": on1("basic.publish", 0, "x", "a"),
		"declare": on1("queue.declare", 0, "q", 6), "bind": on1("queue.bind", 0, "q", "amq.topic", "#"), "consume": on1("basic.consume", 0, "q", "new"), "consume anew": on1("basic.consume", 0, "q", "z"),
		"ack of one": on1("basic.ack", 6, 0), "ack up to one": on1("basic.ack", 6, 1), "ack of all": on1("basic.ack", 0, 1), "ack of none": on1("basic.ack", 7, 0),
		"reject": on1("basic.reject", 6, 1), "nack": on1("basic.nack", 6, 2), "with properties": on1("queue.declare", 0, "q", 0, allProps()),
		"header": frame(2, 1, head(5, allProps(), true)), "header of none": frame(2, 1, head(0, allProps(), true)), "body": frame(3, 1, "x"), "the last body": frame(3, 1, "llo"), "more": frame(3, 1, "llox"),
	}
	for _, k := range kinds() {
		list[k.name] = on1(k.name)
		list[k.name+" on 0"] = meth(0, k.name)
	}
	return list
}

// everything: states of all kinds, with as much in them as there can be.
func everything() map[string]api.Amqp {
	list := all()
	list["fresh"], list["down"] = fresh(), downed(bodyDue(busy()))
	list["given much"], list["in tx with much"] = settling(40), inTxWith(12, 3, 4)
	return list
}

func TestP17_4_Next(t *testing.T) {
	t.Parallel()
	for what, s := range everything() {
		for name, in := range heardFrames() {
			s.Rest = in + "behind"
			keeps(t, what+": "+name, s, func(s api.Amqp) nexted {
				after, acts, heard := amqp.Next(s, me)
				return nexted{after, acts, heard}
			})
		}
	}
}

func TestP17_4_Told(t *testing.T) {
	t.Parallel()
	type telled struct {
		S api.Amqp
		A api.Act
	}
	for what, s := range everything() {
		for name, a := range wantedActs() {
			for _, e := range []api.Errno{ok, errArg, errNone, errDeep} {
				keeps(t, fmt.Sprint(what, ": ", name, ", ", e), telled{s, a}, func(in telled) telling {
					after, acts := amqp.Told(in.S, me, in.A, e)
					return telling{after, acts}
				})
			}
		}
	}
}

func TestP17_4_Give(t *testing.T) {
	t.Parallel()
	type handed struct {
		S api.Amqp
		O api.Out
	}
	for what, s := range everything() {
		for _, sub := range []int{0, 1, 5, 6, 7} {
			for _, m := range append(messages(), api.Msg{Topic: "a", Props: []api.Prop{{}}}) {
				o := api.Out{Conn: me, Sub: sub, Tag: 7, Queue: "q", Msg: m}
				keeps(t, fmt.Sprint(what, ": to ", sub), handed{s, o}, func(in handed) giving {
					after, b := amqp.Give(in.S, in.O)
					return giving{after, b}
				})
			}
		}
	}
}

func TestP17_4_NewAndLost(t *testing.T) {
	for what, s := range everything() {
		keeps(t, what, s, func(s api.Amqp) losing { return losing{amqp.Lost(s, me)} })
	}
	first := amqp.New()
	scribble(first)
	is(t, "New", amqp.New(), fresh())
}

// What is in a transaction, and a publish's properties, are of no two states and acts at once.
func TestP17_4_ThroughATransaction(t *testing.T) {
	frames := []string{on1("basic.publish", 0, "amq.topic", "a"), frame(2, 1, head(2, allProps(), true)), frame(3, 1, "hi"), on1("basic.ack", 6, 0), on1("basic.publish", 0, "", "q"), frame(2, 1, head(0, oneProp(), false)), on1("tx.commit")}
	want := next(inTx(), "").s
	s := roomy(inTx())
	var last step
	for at, in := range frames {
		want = next(want, in).s
		last = next(s, in)
		is(t, fmt.Sprint("frame ", at), last.s, want)
		// What is left behind is written over.
		scribble(s)
		s = last.s
		is(t, fmt.Sprint("frame ", at, ", the one ahead written over"), s, want)
	}
	ack := api.Op{Kind: opAck, Conn: me, Queue: "p", N: 4}
	first := publishOf("a", "hi")
	first.Msg.Props, first.Msg.Durable = allProps(), true
	second := api.Op{Kind: opPublish, Queue: "q", Msg: api.Msg{Topic: "q", Props: oneProp()}}
	is(t, "the transaction", last.acts, []api.Act{do(refCommit, "", append(inTx().Ops, first, ack, second)...)})
}
