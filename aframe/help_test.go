package aframe_test

import (
	"encoding/binary"
	"encoding/hex"
	"fmt"
	"math"
	"math/rand"
	"slices"
	"strings"
	"testing"

	"trivet/aframe"
	"trivet/api"
	"trivet/table"
)

// The exact signatures: the test isn't built if one is another.
var (
	_ func(api.Frame) ([]byte, api.Errno)             = aframe.Encode
	_ func(string) (api.Frame, int, api.Errno)        = aframe.Next
	_ func(int, []api.Prop, bool) ([]byte, api.Errno) = aframe.Head
	_ func(string) (int, []api.Prop, bool, api.Errno) = aframe.ReadHead
)

// The document's numbers, not the program's.
const (
	ok       = api.Errno(0)
	errArg   = api.Errno(1)
	errLong  = api.Errno(3)
	errForm  = api.Errno(11)
	errMsg   = api.Errno(36)
	errProto = api.Errno(40)
	errMore  = api.Errno(41)
	maxFrame = 16384
	maxBody  = 1024
	heldNaN  = uint64(0x7ff8000000000001)
)

// All types of frames there are.
var types = []int{1, 2, 3, 8}

// encodes is all that Encode and Head can answer.
type encodes struct {
	b   string
	err api.Errno
}

func encode(f api.Frame) encodes {
	b, err := aframe.Encode(f)
	return encodes{string(b), err}
}

func head(size int, list []api.Prop, durable bool) encodes {
	b, err := aframe.Head(size, list, durable)
	return encodes{string(b), err}
}

// nexts is all that Next can answer.
type nexts struct {
	f    api.Frame
	size int
	err  api.Errno
}

func next(s string) nexts {
	f, size, err := aframe.Next(s)
	return nexts{f, size, err}
}

// reads is all that ReadHead can answer.
type reads struct {
	size    int
	list    []api.Prop
	durable bool
	err     api.Errno
}

func readHead(s string) reads {
	size, list, durable, err := aframe.ReadHead(s)
	return reads{size, list, durable, err}
}

// is: that something is just this.
func is[T comparable](t *testing.T, what string, got, want T) {
	t.Helper()
	if got != want {
		t.Errorf("%s: %.1000s\nnot %.1000s", what, fmt.Sprintf("%#v", got), fmt.Sprintf("%#v", want))
	}
}

// sameProp: whether two properties are the same, floats bit by bit.
func sameProp(a, b api.Prop) bool {
	x, y := a.Value, b.Value
	return a.Name == b.Name && x.Kind == y.Kind && x.Num == y.Num && x.Text == y.Text && math.Float64bits(x.Real) == math.Float64bits(y.Real)
}

// reading: that bytes read as a header are just this.
func reading(t *testing.T, what, s string, want reads) {
	t.Helper()
	got := readHead(s)
	if got.size != want.size || !slices.EqualFunc(got.list, want.list, sameProp) || got.durable != want.durable || got.err != want.err {
		t.Errorf("%s: %.1000s\nnot %.1000s", what, fmt.Sprintf("%#v", got), fmt.Sprintf("%#v", want))
	}
}

// raw: the bytes that hexadecimal digits tell, blanks apart.
func raw(digits string) string {
	b, err := hex.DecodeString(strings.ReplaceAll(digits, " ", ""))
	if err != nil {
		panic(err)
	}
	return string(b)
}

// char: one byte.
func char[T int | uint64](n T) string { return string([]byte{byte(n)}) }

// big: the lowest so many bytes of a number, the highest first.
func big(size int, n uint64) string {
	return string(binary.BigEndian.AppendUint64(nil, n)[8-size:])
}

// frame: a frame's bytes, whatever it is.
func frame(kind, channel int, payload string) string {
	return char(kind) + big(2, uint64(channel)) + big(4, uint64(len(payload))) + payload + "\xce"
}

// header: the bytes of a header ahead of its properties, whatever they are.
func header(size, flags uint64) string {
	return raw("00 3c 00 00") + big(8, size) + big(2, flags)
}

func whole(n int) api.Value       { return api.Value{Kind: 1, Num: n} }
func truth(n int) api.Value       { return api.Value{Kind: 2, Num: n} }
func text(s string) api.Value     { return api.Value{Kind: 3, Text: s} }
func real(x float64) api.Value    { return api.Value{Kind: 4, Real: x} }
func bitsReal(b uint64) api.Value { return real(math.Float64frombits(b)) }

// twinNext: what Next answers, by the library's means.
func twinNext(s string) nexts {
	var fixed struct {
		Kind    uint8
		Channel uint16
		Size    uint32
	}
	if s != "" && !slices.Contains(types, int(s[0])) {
		return nexts{err: errProto}
	}
	if n, err := binary.Decode([]byte(s[:min(7, len(s))]), binary.BigEndian, &fixed); n < 7 || err != nil {
		return nexts{err: errMore}
	}
	rest := s[7:]
	switch {
	case fixed.Size > maxFrame:
		return nexts{err: errProto}
	case uint64(len(rest)) < uint64(fixed.Size)+1:
		return nexts{err: errMore}
	case rest[fixed.Size] != 0xce:
		return nexts{err: errProto}
	}
	return nexts{api.Frame{Type: int(fixed.Kind), Channel: int(fixed.Channel), Payload: rest[:fixed.Size]}, 8 + int(fixed.Size), ok}
}

// twinReadHead: what ReadHead answers, by the library's means and layer 15.
func twinReadHead(s string) reads {
	var fixed struct {
		Class, None uint16
		Size        uint64
		Flags       uint16
	}
	if n, err := binary.Decode([]byte(s), binary.BigEndian, &fixed); n != 14 || err != nil || fixed.Class != 60 || fixed.None != 0 {
		return reads{err: errForm}
	}
	got, rest := reads{size: int(fixed.Size)}, s[14:]
	modes := map[string]bool{"\x01": false, "\x02": true}
	switch fixed.Flags {
	case 0, 8192:
		modes = map[string]bool{"": false}
	case 4096, 12288:
	default:
		return reads{err: errForm}
	}
	if fixed.Flags >= 8192 {
		list, size, err := table.Take(rest)
		if err != ok {
			return reads{err: errForm}
		}
		got.list, rest = list, rest[size:]
	}
	durable, there := modes[rest]
	if !there {
		return reads{err: errForm}
	}
	if fixed.Size > maxBody {
		return reads{err: errLong}
	}
	got.durable = durable
	return got
}

// one: one of a list.
func one[T any](r *rand.Rand, list ...T) T {
	return list[r.Intn(len(list))]
}

// someText: a text of any bytes, of at most so many.
func someText(r *rand.Rand, most int) string {
	b := make([]byte, one(r, 0, 1, r.Intn(1+min(most, 10)), r.Intn(1+most), most))
	r.Read(b)
	return string(b)
}

// someFrame: a frame that can be, with at most so many bytes.
func someFrame(r *rand.Rand, most int) api.Frame {
	return api.Frame{Type: one(r, types...), Channel: one(r, 0, 1, 255, 256, 65535, r.Intn(65536)), Payload: someText(r, most)}
}

// someProps: properties that can be a message's.
func someProps(r *rand.Rand) []api.Prop {
	var list []api.Prop
	for at := range one(r, 0, 1, r.Intn(17), 16) {
		v := one(r, whole(int(r.Uint64())), whole(r.Intn(3)), truth(r.Intn(2)), text(someText(r, 256)), real(r.NormFloat64()), real(0.5), bitsReal(1<<63), bitsReal(heldNaN))
		// The first letter makes them rise.
		list = append(list, api.Prop{Name: string(rune('a'+at)) + strings.Repeat("-", one(r, 0, 1, 15)), Value: v})
	}
	return list
}

// spoilt: bytes that are a little other ones.
func spoilt(r *rand.Rand, s string) string {
	b := []byte(s)
	for range 1 + r.Intn(3) {
		if len(b) == 0 {
			return string(b)
		}
		// What stands ahead tells most, so it is spoilt most.
		at := one(r, r.Intn(len(b)), r.Intn(min(20, len(b))), len(b)-1)
		switch r.Intn(6) {
		case 0:
			b[at] ^= 1 << r.Intn(8)
		case 1:
			b[at] = byte(r.Intn(256))
		case 2:
			b[at] += byte(r.Intn(5) - 2)
		case 3:
			b = slices.Delete(b, at, at+1)
		case 4:
			b = slices.Insert(b, at, byte(r.Intn(256)))
		case 5:
			b = b[:at]
		}
	}
	return string(b)
}
