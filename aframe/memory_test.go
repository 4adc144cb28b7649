package aframe_test

import (
	"math/rand"
	"slices"
	"strings"
	"testing"
	"unsafe"

	"trivet/aframe"
	"trivet/api"
)

// inside: whether a text's bytes lie in those of another one.
func inside(s, whole string) bool {
	from, at := uintptr(unsafe.Pointer(unsafe.StringData(whole))), uintptr(unsafe.Pointer(unsafe.StringData(s)))
	return s != "" && from <= at && at < from+uintptr(len(whole))
}

// overwrite writes over bytes, and over the room behind them.
func overwrite(b []byte) {
	for at := range b[:cap(b)] {
		b[:cap(b)][at] = '!'
	}
}

// roomy: a list with room behind it, in which something stands.
func roomy(list []api.Prop) []api.Prop {
	room := append(slices.Clone(list), api.Prop{Name: "room", Value: text("room")}, api.Prop{Name: "more", Value: real(0.5)})
	return room[:len(list):len(room)]
}

// rewritten: that what is handed out by a call stays, whatever is done with what another one handed out, and with what was handed in.
func rewritten(t *testing.T, what string, call func() []byte, spoil func()) {
	t.Helper()
	first, second := call(), call()
	want := string(first)
	is(t, what+": once more", string(second), want)
	overwrite(first)
	is(t, what+": another answer", string(second), want)
	third := call()
	is(t, what+": a later answer", string(third), want)
	overwrite(second)
	spoil()
	is(t, what+": behind what the caller wrote", string(third), want)
}

func TestP16_1_MemoryOfEncode(t *testing.T) {
	for _, kind := range types {
		for _, size := range []int{0, 1, 16, 300, maxFrame} {
			// The payload lies in memory that can be written.
			payload := []byte(strings.Repeat("x", size))
			f := api.Frame{Type: kind, Channel: 7}
			if size > 0 {
				f.Payload = unsafe.String(&payload[0], size)
			}
			rewritten(t, "Encode", func() []byte {
				b, err := aframe.Encode(f)
				is(t, "Encode", err, ok)
				return b
			}, func() {
				is(t, "what was handed in", string(payload), strings.Repeat("x", size))
				overwrite(payload)
			})
		}
	}
}

func TestP16_1_MemoryOfNext(t *testing.T) {
	for _, payload := range []string{"", "x", "hello", strings.Repeat("\xce", maxFrame)} {
		bytes := []byte(frame(3, 1, payload) + frame(1, 2, "behind"))
		was := string(bytes)
		s := unsafe.String(&bytes[0], len(bytes))
		got, again := next(s), next(s)
		is(t, "what was handed in", string(bytes), was)
		if inside(got.f.Payload, s) || inside(got.f.Payload, again.f.Payload) {
			t.Errorf("a payload of %d bytes shares memory", len(payload))
		}
		overwrite(bytes)
		is(t, "behind what the caller wrote", got, nexts{api.Frame{Type: 3, Channel: 1, Payload: payload}, len(payload) + 8, ok})
		is(t, "behind what the caller wrote", again, got)
		is(t, "of other bytes", next(s), nexts{err: errProto})
	}
}

func TestP16_1_MemoryOfHead(t *testing.T) {
	r := rand.New(rand.NewSource(169))
	lists := [][]api.Prop{nil, {}, listA}
	for range 200 {
		lists = append(lists, someProps(r))
	}
	for _, list := range lists {
		for _, durable := range []bool{false, true} {
			in := roomy(list)
			was := slices.Clone(in[:cap(in)])
			rewritten(t, "Head", func() []byte {
				b, err := aframe.Head(9, in, durable)
				is(t, "Head", err, ok)
				return b
			}, func() {
				if !slices.EqualFunc(in[:cap(in)], was, sameProp) {
					t.Errorf("the list handed in: %#v\nnot %#v", in[:cap(in)], was)
				}
				clear(in[:cap(in)])
			})
		}
	}
	for what, list := range wrong() {
		in := roomy(list)
		was := slices.Clone(in[:cap(in)])
		for _, size := range []int{-1, 0, 1025} {
			b, err := aframe.Head(size, in, true)
			if len(b) != 0 || err == ok || !slices.EqualFunc(in[:cap(in)], was, sameProp) {
				t.Errorf("%s: %q, %d, %#v", what, b, err, in[:cap(in)])
			}
		}
	}
}

func TestP16_1_MemoryOfReadHead(t *testing.T) {
	r := rand.New(rand.NewSource(170))
	for range 500 {
		list := append(someProps(r), api.Prop{Name: "z", Value: text("hello")})
		list = list[max(0, len(list)-16):]
		bytes := []byte(head(9, list, true).b)
		was := string(bytes)
		s := unsafe.String(&bytes[0], len(bytes))
		first, second := readHead(s), readHead(s)
		is(t, "what was handed in", string(bytes), was)
		for _, p := range first.list {
			if inside(p.Name, s) || inside(p.Value.Text, s) {
				t.Errorf("%#v shares memory with what was read", p)
			}
		}
		clear(first.list[:cap(first.list)])
		overwrite(bytes)
		if !slices.EqualFunc(second.list, list, sameProp) {
			t.Errorf("another answer: %#v\nnot %#v", second.list, list)
		}
		reading(t, "a later answer", was, reads{9, list, true, ok})
	}
}
