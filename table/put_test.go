package table_test

import (
	"fmt"
	"math"
	"slices"
	"strings"
	"testing"

	"trivet/api"
)

func TestP15_1_Examples(t *testing.T) {
	is(t, "{a: true}", put("", []api.Prop{{Name: "a", Value: truth(1)}}), puts{raw("00 00 00 04 01 61 74 01"), ok})
	read(t, "{a: true}", raw("00 00 00 04 01 61 74 01"), api.Prop{Name: "a", Value: truth(1)})
	is(t, "0.5", put("", []api.Prop{{Name: "x", Value: real(0.5)}}), puts{raw("00 00 00 07 01 78 66 3f 00 00 00"), ok})
	is(t, "0.1", put("", []api.Prop{{Name: "x", Value: real(0.1)}}), puts{raw("00 00 00 0b 01 78 64 3f b9 99 99 99 99 99 9a"), ok})
	ack := api.Method{Class: 60, Id: 80, Nums: []int{5, 0}}
	is(t, "basic.ack", encode(ack), puts{raw("00 3c 00 50 00 00 00 00 00 00 00 05 00"), ok})
	is(t, "basic.ack", decode(raw("00 3c 00 50 00 00 00 00 00 00 00 05 00")), decodes{ack, ok})
}

// written: values, and their letter and bytes as Put has them.
func written() []struct {
	v api.Value
	b string
} {
	type pair = struct {
		v api.Value
		b string
	}
	all := []pair{
		{truth(0), raw("74 00")},
		{truth(1), raw("74 01")},
		{whole(0), raw("6c 00 00 00 00 00 00 00 00")},
		{whole(1), raw("6c 00 00 00 00 00 00 00 01")},
		{whole(-1), raw("6c ff ff ff ff ff ff ff ff")},
		{whole(127), raw("6c 00 00 00 00 00 00 00 7f")},
		{whole(-128), raw("6c ff ff ff ff ff ff ff 80")},
		{whole(1 << 40), raw("6c 00 00 01 00 00 00 00 00")},
		{whole(0x0123456789abcdef), raw("6c 01 23 45 67 89 ab cd ef")},
		{whole(math.MaxInt), raw("6c 7f ff ff ff ff ff ff ff")},
		{whole(math.MinInt), raw("6c 80 00 00 00 00 00 00 00")},
		{text(""), raw("53 00 00 00 00")},
		{text("hi"), raw("53 00 00 00 02 68 69")},
		{text("\x00\xff\n"), raw("53 00 00 00 03 00 ff 0a")},
		{text(strings.Repeat("x", 255)), raw("53 00 00 00 ff") + strings.Repeat("x", 255)},
		{text(strings.Repeat("x", 256)), raw("53 00 00 01 00") + strings.Repeat("x", 256)},
	}
	for _, c := range []struct {
		bits uint64
		b    string
	}{
		{0, "66 00 00 00 00"},
		{1 << 63, "66 80 00 00 00"},
		{math.Float64bits(0.5), "66 3f 00 00 00"},
		{math.Float64bits(-2), "66 c0 00 00 00"},
		{0x7ff0000000000000, "66 7f 80 00 00"},
		{0xfff0000000000000, "66 ff 80 00 00"},
		{heldNaN, "66 7f c0 00 00"},
		{math.Float64bits(math.MaxFloat32), "66 7f 7f ff ff"},
		{math.Float64bits(math.SmallestNonzeroFloat32), "66 00 00 00 01"},
		{0x4170000000000000, "66 4b 80 00 00"},             // 2^24
		{0x4170000010000000, "64 41 70 00 00 10 00 00 00"}, // and one
		{0x36b8000000000000, "66 00 00 00 03"},             // three of the least that 32 bits have
		{0x36a8000000000000, "64 36 a8 00 00 00 00 00 00"}, // one and a half of it
		{0x3690000000000000, "64 36 90 00 00 00 00 00 00"}, // half of it
		{math.Float64bits(0.1), "64 3f b9 99 99 99 99 99 9a"},
		{math.Float64bits(-0.1), "64 bf b9 99 99 99 99 99 9a"},
		{0x47efffffe0000001, "64 47 ef ff ff e0 00 00 01"},
		{0x47f0000000000000, "64 47 f0 00 00 00 00 00 00"},
		{0x7fefffffffffffff, "64 7f ef ff ff ff ff ff ff"},
		{1, "64 00 00 00 00 00 00 00 01"},
		{1<<63 | 1, "64 80 00 00 00 00 00 00 01"},
	} {
		all = append(all, pair{bitsReal(c.bits), raw(c.b)})
	}
	return all
}

func TestP15_1_PutEachValue(t *testing.T) {
	for _, c := range written() {
		want := fields(short("name-0_z") + c.b)
		list := []api.Prop{{Name: "name-0_z", Value: c.v}}
		is(t, fmt.Sprintf("Put of %#v", c.v), put("", list), puts{want, ok})
		read(t, fmt.Sprintf("Take of %#v", c.v), want, list...)
	}
}

func TestP15_1_PutInTheirOrder(t *testing.T) {
	is(t, "no property", put("", nil), puts{raw("00 00 00 00"), ok})
	is(t, "an empty list", put("", []api.Prop{}), puts{raw("00 00 00 00"), ok})
	var list []api.Prop
	want := ""
	for at, c := range written()[:maxProps] {
		name := strings.Repeat("-", at+1)
		list = append(list, api.Prop{Name: name, Value: c.v})
		want += short(name) + c.b
		is(t, fmt.Sprint(at+1, " properties"), put("", list), puts{long(want), ok})
	}
	is(t, "behind bytes", put("ahead\x00", list), puts{"ahead\x00" + long(want), ok})
	is(t, "behind many", put(strings.Repeat("x", 5000), list), puts{strings.Repeat("x", 5000) + long(want), ok})
}

// The longest there is: sixteen names of sixteen bytes, each with a text of 256.
func TestP15_1_TheLongestTable(t *testing.T) {
	var list []api.Prop
	for at := range maxProps {
		list = append(list, api.Prop{Name: fmt.Sprintf("%016d", at), Value: text(strings.Repeat("x", maxText))})
	}
	b, _ := twinPut(list)
	is(t, "its bytes", len(b), 4+16*(1+16+1+4+256))
	is(t, "Put", put("", list), puts{b, ok})
	read(t, "Take", b, list...)
}

// wrong: lists that can't be a message's.
func wrong() map[string][]api.Prop {
	all := map[string][]api.Prop{
		"no name":               {{Name: "", Value: whole(1)}},
		"a name of 17":          {{Name: strings.Repeat("a", 17), Value: whole(1)}},
		"a name of 255":         {{Name: strings.Repeat("a", 255), Value: whole(1)}},
		"a name of 256":         {{Name: strings.Repeat("a", 256), Value: whole(1)}},
		"a great letter":        {{Name: "A", Value: whole(1)}},
		"a dot":                 {{Name: "a.b", Value: whole(1)}},
		"no letter":             {{Name: "\x00", Value: whole(1)}},
		"a rune":                {{Name: "ä", Value: whole(1)}},
		"falling":               {{Name: "b", Value: whole(1)}, {Name: "a", Value: whole(1)}},
		"twice":                 {{Name: "a", Value: whole(1)}, {Name: "a", Value: whole(1)}},
		"twice, other values":   {{Name: "a", Value: whole(1)}, {Name: "a", Value: truth(1)}},
		"a wrong one among all": {{Name: "a", Value: whole(1)}, {Name: "b", Value: truth(2)}, {Name: "c", Value: whole(1)}},
	}
	for what, v := range map[string]api.Value{
		"zeros":               {},
		"kind 5":              {Kind: 5},
		"kind -1":             {Kind: -1},
		"kind 257":            {Kind: 257, Num: 1},
		"truth 2":             truth(2),
		"truth -1":            truth(-1),
		"truth 256":           truth(256),
		"a text of 257":       text(strings.Repeat("x", 257)),
		"a long text":         text(strings.Repeat("x", 70000)),
		"another NaN":         bitsReal(0x7ff8000000000000),
		"a NaN below":         bitsReal(0xfff8000000000001),
		"an int with a text":  {Kind: vInt, Text: "x"},
		"an int with a float": {Kind: vInt, Real: 1},
		"an int with -0":      {Kind: vInt, Real: math.Copysign(0, -1)},
		"a truth with a text": {Kind: vBool, Num: 1, Text: "x"},
		"a text with a num":   {Kind: vText, Num: 1, Text: "x"},
		"a text with a NaN":   {Kind: vText, Text: "x", Real: math.NaN()},
		"a float with a num":  {Kind: vReal, Num: 1, Real: 1},
		"a float with a text": {Kind: vReal, Text: "1", Real: 1},
	} {
		all[what] = []api.Prop{{Name: "a", Value: v}}
	}
	var many []api.Prop
	for at := range maxProps + 1 {
		many = append(many, api.Prop{Name: string(rune('a' + at)), Value: whole(at)})
	}
	all["17"] = many
	all["a thousand"] = slices.Repeat(many, 60)
	return all
}

func TestP15_1_PutOfWhatCantBe(t *testing.T) {
	for what, list := range wrong() {
		for _, ahead := range []string{"", "ahead"} {
			is(t, what, put(ahead, list), puts{err: errMsg})
		}
	}
}
