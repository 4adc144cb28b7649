package stomp_test

import (
	"fmt"
	"reflect"
	"slices"
	"testing"

	"trivet/api"
	"trivet/stomp"
)

// rebuilt: the same value in memory of its own, each list made by a function of its own from its parts.
func rebuilt(v reflect.Value, list func(v reflect.Value) reflect.Value) reflect.Value {
	switch v.Kind() {
	case reflect.Slice:
		l := list(v)
		for at := range l.Len() {
			l.Index(at).Set(rebuilt(l.Index(at), list))
		}
		return l
	case reflect.Struct:
		n := reflect.New(v.Type()).Elem()
		for at := range v.NumField() {
			n.Field(at).Set(rebuilt(v.Field(at), list))
		}
		return n
	}
	return v
}

// roomy: the same value, each of whose lists has room behind it in which something stands.
func roomy[T any](x T) T {
	list := func(v reflect.Value) reflect.Value {
		n := reflect.MakeSlice(v.Type(), v.Len()+3, v.Len()+3)
		reflect.Copy(n, v)
		for at := v.Len(); at < n.Len(); at++ {
			junk(n.Index(at))
		}
		return n.Slice(0, v.Len())
	}
	return rebuilt(reflect.ValueOf(x), list).Interface().(T)
}

// full: all that a value's lists have, their room too, in memory of its own.
func full[T any](x T) T {
	list := func(v reflect.Value) reflect.Value {
		n := reflect.MakeSlice(v.Type(), v.Cap(), v.Cap())
		reflect.Copy(n, v.Slice(0, v.Cap()))
		return n
	}
	return rebuilt(reflect.ValueOf(x), list).Interface().(T)
}

// junk writes something into all numbers, texts and truths of a value, and over its lists.
func junk(v reflect.Value) {
	switch v.Kind() {
	case reflect.Int:
		v.SetInt(-77)
	case reflect.Uint8:
		v.SetUint(77)
	case reflect.String:
		v.SetString("written")
	case reflect.Bool:
		v.SetBool(!v.Bool())
	case reflect.Float64:
		v.SetFloat(-77)
	case reflect.Struct:
		for at := range v.NumField() {
			junk(v.Field(at))
		}
	case reflect.Slice:
		if v.IsNil() {
			return
		}
		all := v.Slice(0, v.Cap())
		for at := range all.Len() {
			junk(all.Index(at))
		}
	}
}

// scribble writes over all that is reached from a value's lists, their room too.
func scribble(x any) {
	v := reflect.ValueOf(x)
	switch v.Kind() {
	case reflect.Slice:
		junk(v)
	case reflect.Struct:
		for at := range v.NumField() {
			scribble(v.Field(at).Interface())
		}
	}
}

// stretch is where a list's memory is.
type stretch struct{ from, to uintptr }

// memory: where all lists are that are reached from a value, with their room.
func memory(x any) []stretch {
	var all []stretch
	var look func(v reflect.Value)
	look = func(v reflect.Value) {
		switch v.Kind() {
		case reflect.Struct:
			for at := range v.NumField() {
				look(v.Field(at))
			}
		case reflect.Slice:
			if v.Cap() == 0 {
				return
			}
			all = append(all, stretch{v.Pointer(), v.Pointer() + uintptr(v.Cap())*v.Type().Elem().Size()})
			room := v.Slice(0, v.Cap())
			for at := range room.Len() {
				look(room.Index(at))
			}
		}
	}
	look(reflect.ValueOf(x))
	return all
}

// apart: that no two lists share memory, of these values together.
func apart(t *testing.T, what string, values ...any) {
	t.Helper()
	var all []stretch
	for _, x := range values {
		all = append(all, memory(x)...)
	}
	slices.SortFunc(all, func(a, b stretch) int {
		if a.from < b.from {
			return -1
		}
		return 1
	})
	for at := 1; at < len(all); at++ {
		if all[at].from < all[at-1].to {
			t.Errorf("%s: two lists share memory", what)
			return
		}
	}
}

// Answers of the calls, of which all parts are looked at.
type (
	nexted struct {
		S     api.Stomp
		Acts  []api.Act
		Heard bool
	}
	telling struct {
		S    api.Stomp
		Acts []api.Act
	}
	giving struct {
		S api.Stomp
		B []byte
	}
	losing struct{ Ops []api.Op }
)

// keeps: that a call neither changes nor keeps what is handed in, and that each of its answers is new memory.
func keeps[In, Out any](t *testing.T, what string, in In, call func(In) Out) {
	t.Helper()
	want := call(in)
	in = roomy(in)
	before := full(in)
	first, second := call(in), call(in)
	is(t, what+": what was handed in", full(in), before)
	apart(t, what, in, first, second)
	is(t, what+": the first answer", first, want)
	scribble(first)
	is(t, what+": the second answer", second, want)
	is(t, what+": what was handed in, behind what the caller wrote", full(in), before)
	is(t, what+": a later answer", call(in), want)
	scribble(in)
	is(t, what+": behind what the caller wrote into what was handed in", second, want)
}

// heardFrames: frames of all that is heard.
func heardFrames() []string {
	list := []string{
		"", "\n", "SEND\n", "no frame\n\n\x00", line("CONNECT", "accept-version", "1.2"), line("CONNECT"), line("STOMP", "accept-version", "1.2"), line("FOO"),
		wire("SEND", "body", with(allPairs(), "destination", "/topic/a.b")...), line("SEND", "destination", "/queue/q", "p-k", "x"),
	}
	for _, name := range []string{"t", "none", "t:2", "t0", "t1", "t3", "new"} {
		list = append(list,
			wire("SEND", "body", with(allPairs(), "destination", "/topic/a.b", "transaction", name)...),
			line("ACK", "id", "5", "transaction", name), line("NACK", "id", "5", "transaction", name),
			line("BEGIN", "transaction", name), line("COMMIT", "transaction", name), line("ABORT", "transaction", name, "receipt", "r"))
	}
	for _, id := range []string{"z", "0", "a:b", "b", "id0", "id3", "id7", "new"} {
		list = append(list, line("UNSUBSCRIBE", "id", id), line("SUBSCRIBE", "id", id, "destination", "/topic/a.*"), line("SUBSCRIBE", "id", id, "destination", "/queue/q"))
	}
	for n := range 14 {
		list = append(list, line("ACK", "id", fmt.Sprint(n)), line("NACK", "id", fmt.Sprint(n), "receipt", "r"))
	}
	return append(list, line("DISCONNECT", "receipt", "r"))
}

// everything: states of all kinds.
func everything() map[string]api.Stomp {
	list := opened()
	list["fresh"], list["down"], list["seven"] = fresh(), downed(busy()), subscribable()["seven"]
	return list
}

func TestP19_4_Next(t *testing.T) {
	t.Parallel()
	for what, s := range everything() {
		for _, in := range heardFrames() {
			s.Rest = in + "behind"
			keeps(t, fmt.Sprintf("%s: %.60q", what, in), s, func(s api.Stomp) nexted {
				after, acts, heard := stomp.Next(s, me)
				return nexted{after, acts, heard}
			})
		}
	}
}

func TestP19_4_Told(t *testing.T) {
	t.Parallel()
	type telled struct {
		S api.Stomp
		A api.Act
	}
	for what, s := range everything() {
		for at, a := range append(wantedActs("r"), wantedActs("")...) {
			for _, e := range []api.Errno{ok, errArg, errDeep} {
				keeps(t, fmt.Sprint(what, ": act ", at, ", ", e), telled{s, a}, func(in telled) telling {
					after, acts := stomp.Told(in.S, me, in.A, e)
					return telling{after, acts}
				})
			}
		}
	}
}

func TestP19_4_Give(t *testing.T) {
	t.Parallel()
	type handed struct {
		S api.Stomp
		O api.Out
	}
	list := []api.Msg{{Topic: "q"}, {Topic: "a.b", Body: "hi", Props: allProps(), Durable: true}, {Topic: "s3-6", Props: manyProps(16)}, {Topic: "a", Props: []api.Prop{{}}}}
	for what, s := range everything() {
		for _, sub := range []int{0, 1, 2, 5, 6, 7, 9, 14, 49} {
			for _, m := range list {
				for _, tag := range []int{0, 7} {
					o := api.Out{Conn: me, Sub: sub, Tag: tag, Queue: "q", Msg: m}
					keeps(t, fmt.Sprint(what, ": to ", sub), handed{s, o}, func(in handed) giving {
						after, b := stomp.Give(in.S, in.O)
						return giving{after, b}
					})
				}
			}
		}
	}
}

func TestP19_4_NewAndLost(t *testing.T) {
	for what, s := range everything() {
		keeps(t, what, s, func(s api.Stomp) losing { return losing{stomp.Lost(s, me)} })
	}
	first := stomp.New()
	scribble(first)
	is(t, "New", stomp.New(), fresh())
}

// What is in a transaction, and what was given, are of no two states and acts at once.
func TestP19_4_ThroughATransaction(t *testing.T) {
	frames := []string{
		line("BEGIN", "transaction", "new"),
		wire("SEND", "hi", with(allPairs(), "destination", "/topic/a", "transaction", "new")...),
		line("ACK", "id", "6", "transaction", "new"),
		line("SEND", "destination", "/queue/q", "p-a", "b1", "transaction", "t"),
		line("UNSUBSCRIBE", "id", "z"),
		line("NACK", "id", "10", "transaction", "new"),
		line("ABORT", "transaction", "none"),
		line("COMMIT", "transaction", "t:2"),
		line("COMMIT", "transaction", "new"),
		line("COMMIT", "transaction", "t"),
	}
	want := next(busy(), "").s
	s := roomy(busy())
	var acts []api.Act
	for at, in := range frames {
		want = next(want, in).s
		got := next(s, in)
		is(t, fmt.Sprint("frame ", at), got.s, want)
		// What is left behind is written over.
		scribble(s)
		s, acts = got.s, append(acts, got.acts...)
		is(t, fmt.Sprint("frame ", at, ", the one ahead written over"), s, want)
	}
	queue := place{"/queue/q", true, "q"}
	is(t, "what is wanted", acts, []api.Act{
		do("", api.Op{Kind: opUnsubscribe, Conn: me, Sub: 2}),
		do("", busy().Txs[2].Ops...),
		do("", sendOf("", "a", "hi", false, allProps()), api.Op{Kind: opAck, Conn: me, Queue: "q", N: 24}, api.Op{Kind: opNack, Conn: me, Queue: "s3-6", N: 4, Auto: true}),
		do("", append(busy().Txs[0].Ops, sent(queue, "", false, oneProp()))...),
	})
}
