package table_test

import (
	"encoding/hex"
	"fmt"
	"math"
	"math/rand"
	"reflect"
	"strings"
	"sync"
	"testing"

	"trivet/api"
	"trivet/table"
)

// The exact signatures: the test isn't built if one is another.
var (
	_ func([]byte, []api.Prop) ([]byte, api.Errno) = table.Put
	_ func(string) ([]api.Prop, int, api.Errno)    = table.Take
	_ func(int, int) (string, bool)                = table.Form
	_ func(api.Method) ([]byte, api.Errno)         = table.Encode
	_ func(string) (api.Method, api.Errno)         = table.Decode
)

// The document's numbers, not the program's.
const (
	ok       = api.Errno(0)
	errArg   = api.Errno(1)
	errForm  = api.Errno(11)
	errMsg   = api.Errno(36)
	maxName  = 16
	maxProps = 16
	maxText  = 256
	maxBody  = 1024
	vInt     = 1
	vBool    = 2
	vText    = 3
	vReal    = 4
	heldNaN  = uint64(0x7ff8000000000001)
)

// chapter: the document's table of methods: class, number, name, form.
const chapter = `
10 10 connection.start ooTSS
10 11 connection.start-ok TsSs
10 30 connection.tune hlh
10 31 connection.tune-ok hlh
10 40 connection.open ssb
10 41 connection.open-ok s
10 50 connection.close hshh
10 51 connection.close-ok
20 10 channel.open s
20 11 channel.open-ok S
20 40 channel.close hshh
20 41 channel.close-ok
50 10 queue.declare hsbT
50 11 queue.declare-ok sll
50 20 queue.bind hsssbT
50 21 queue.bind-ok
60 10 basic.qos lhb
60 11 basic.qos-ok
60 20 basic.consume hssbT
60 21 basic.consume-ok s
60 40 basic.publish hssb
60 60 basic.deliver sLbss
60 70 basic.get hsb
60 71 basic.get-ok Lbssl
60 72 basic.get-empty s
60 80 basic.ack Lb
60 90 basic.reject Lb
60 120 basic.nack Lb
85 10 confirm.select b
85 11 confirm.select-ok
90 10 tx.select
90 11 tx.select-ok
90 20 tx.commit
90 21 tx.commit-ok
90 30 tx.rollback
90 31 tx.rollback-ok
`

// kind is a row of the chapter's table.
type kind struct {
	class, id  int
	name, form string
}

// kinds: the chapter's rows, read once: they are asked for often.
var kinds = sync.OnceValue(func() []kind {
	var all []kind
	for line := range strings.Lines(strings.TrimSpace(chapter)) {
		var k kind
		// A row without a form ends early: that isn't a fault.
		fmt.Sscan(line, &k.class, &k.id, &k.name, &k.form)
		all = append(all, k)
	}
	return all
})

// kindOf: the row of a class and a number.
func kindOf(class, id int) (kind, bool) {
	for _, k := range kinds() {
		if k.class == class && k.id == id {
			return k, true
		}
	}
	return kind{}, false
}

// with: the rows whose form has this letter.
func with(letter string) []kind {
	var all []kind
	for _, k := range kinds() {
		if strings.Contains(k.form, letter) {
			all = append(all, k)
		}
	}
	return all
}

// plain: a method of a kind, with something different at each of its places.
func plain(k kind) api.Method {
	m := api.Method{Class: k.class, Id: k.id}
	for at, letter := range k.form {
		switch letter {
		case 's', 'S':
			m.Texts = append(m.Texts, fmt.Sprint("text", at))
		case 'T':
			m.Props = []api.Prop{{Name: "a", Value: truth(1)}, {Name: "b", Value: real(0.5)}, {Name: "c", Value: text("ok")}}
		default:
			m.Nums = append(m.Nums, 7+at)
		}
	}
	return m
}

func whole(n int) api.Value       { return api.Value{Kind: vInt, Num: n} }
func truth(n int) api.Value       { return api.Value{Kind: vBool, Num: n} }
func text(s string) api.Value     { return api.Value{Kind: vText, Text: s} }
func real(x float64) api.Value    { return api.Value{Kind: vReal, Real: x} }
func bitsReal(b uint64) api.Value { return real(math.Float64frombits(b)) }

// raw: the bytes that hexadecimal digits tell, blanks apart.
func raw(digits string) string {
	b, err := hex.DecodeString(strings.ReplaceAll(digits, " ", ""))
	if err != nil {
		panic(err)
	}
	return string(b)
}

// big: the lowest so many bytes of a number, the highest first.
func big(size int, n uint64) string {
	return raw(fmt.Sprintf("%016x", n))[8-size:]
}

// short, long: a text's bytes.
func short(s string) string { return big(1, uint64(len(s))) + s }
func long(s string) string  { return big(4, uint64(len(s))) + s }

// field: a field's bytes.
func field(name, letter, bytes string) string { return short(name) + letter + bytes }

// fields: a table of fields, whatever they are.
func fields(list ...string) string { return long(strings.Join(list, "")) }

// takes is all that Take can answer.
type takes struct {
	list []api.Prop
	size int
	err  api.Errno
}

func take(s string) takes {
	list, size, err := table.Take(s)
	return takes{list, size, err}
}

// puts is all that Put and Encode can answer.
type puts struct {
	b   string
	err api.Errno
}

func put(b string, list []api.Prop) puts {
	out, err := table.Put([]byte(b), list)
	return puts{string(out), err}
}

func encode(m api.Method) puts {
	b, err := table.Encode(m)
	return puts{string(b), err}
}

// decodes is all that Decode can answer.
type decodes struct {
	m   api.Method
	err api.Errno
}

func decode(s string) decodes {
	m, err := table.Decode(s)
	return decodes{m, err}
}

// read: that bytes are a table, and just this one, whatever stands behind.
func read(t *testing.T, what, s string, list ...api.Prop) {
	t.Helper()
	for _, behind := range []string{"", "\x00", "more", s} {
		is(t, what, take(s+behind), takes{list, len(s), ok})
	}
}

// unread: that bytes don't begin with a table.
func unread(t *testing.T, what, s string) {
	t.Helper()
	is(t, what, take(s), takes{err: errForm})
}

// alike: whether two values are the same, floats bit by bit; nil and empty lists are the same.
func alike(a, b reflect.Value) bool {
	switch a.Kind() {
	case reflect.Float64:
		return math.Float64bits(a.Float()) == math.Float64bits(b.Float())
	case reflect.Slice:
		for at := range a.Len() {
			if a.Len() != b.Len() || !alike(a.Index(at), b.Index(at)) {
				return false
			}
		}
		return a.Len() == b.Len()
	case reflect.Struct:
		for at := range a.NumField() {
			if !alike(a.Field(at), b.Field(at)) {
				return false
			}
		}
		return true
	}
	return a.Equal(b)
}

func same[T any](a, b T) bool {
	return alike(reflect.ValueOf(a), reflect.ValueOf(b))
}

// is: that something is just this.
func is[T any](t *testing.T, what string, got, want T) {
	t.Helper()
	if !same(got, want) {
		t.Errorf("%s: %.1000s\nnot %.1000s", what, fmt.Sprintf("%#v", got), fmt.Sprintf("%#v", want))
	}
}

// one: one of a list.
func one[T any](r *rand.Rand, list ...T) T {
	return list[r.Intn(len(list))]
}

// someText: a text of any bytes, of at most so many.
func someText(r *rand.Rand, most int) string {
	b := make([]byte, one(r, 0, 1, r.Intn(1+min(most, 10)), r.Intn(1+most), most))
	r.Read(b)
	return string(b)
}

// someNum: a number of at most so many bits, of any size.
func someNum(r *rand.Rand, bits int) int {
	return int(one(r, 0, 1, uint64(math.MaxUint64), r.Uint64(), r.Uint64()>>r.Intn(64)) >> (64 - bits))
}

// someFloat: a float as it is held.
func someFloat(r *rand.Rand) float64 {
	b := one(r, r.Uint64(), math.Float64bits(float64(math.Float32frombits(r.Uint32()))), math.Float64bits(float64(r.Intn(1000))/8), 0, 1<<63, 0x7ff<<52, 0xfff<<52, heldNaN, math.Float64bits(0.1))
	if x := math.Float64frombits(b); x == x {
		return x
	}
	return math.Float64frombits(heldNaN)
}

// someValue: a value that can be.
func someValue(r *rand.Rand) api.Value {
	switch r.Intn(4) {
	case 0:
		return whole(someNum(r, 64))
	case 1:
		return truth(r.Intn(2))
	case 2:
		return text(someText(r, maxText))
	}
	return real(someFloat(r))
}

// someProps: properties that can be a message's.
func someProps(r *rand.Rand) []api.Prop {
	var list []api.Prop
	count := one(r, 0, 1, r.Intn(1+maxProps), maxProps)
	for at := range count {
		// The first letter makes them rise.
		name := string(rune('a'+at)) + strings.Repeat(one(r, "-", "_", "0", "9", "a", "z"), one(r, 0, 1, maxName-1))
		list = append(list, api.Prop{Name: name, Value: someValue(r)})
	}
	return list
}

// someMethod: a method that can be.
func someMethod(r *rand.Rand) api.Method {
	k := one(r, kinds()...)
	m := api.Method{Class: k.class, Id: k.id}
	for _, letter := range k.form {
		switch letter {
		case 's':
			m.Texts = append(m.Texts, someText(r, 255))
		case 'S':
			m.Texts = append(m.Texts, someText(r, maxBody))
		case 'T':
			m.Props = someProps(r)
		default:
			m.Nums = append(m.Nums, someNum(r, map[rune]int{'o': 8, 'b': 8, 'h': 16, 'l': 32, 'L': 63}[letter]))
		}
	}
	return m
}
