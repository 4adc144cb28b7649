package table_test

import (
	"fmt"
	"math"
	"math/rand"
	"slices"
	"strings"
	"testing"

	"trivet/api"
)

func TestP15_1_TakeEachLetter(t *testing.T) {
	for _, c := range []struct {
		letter, bytes string
		want          api.Value
	}{
		{"t", "00", truth(0)},
		{"t", "01", truth(1)},
		{"b", "00", whole(0)},
		{"b", "7f", whole(127)},
		{"b", "80", whole(-128)},
		{"b", "ff", whole(-1)},
		{"s", "00 00", whole(0)},
		{"s", "00 80", whole(128)},
		{"s", "01 00", whole(256)},
		{"s", "7f ff", whole(32767)},
		{"s", "80 00", whole(-32768)},
		{"s", "ff 7f", whole(-129)},
		{"s", "ff ff", whole(-1)},
		{"I", "00 00 00 00", whole(0)},
		{"I", "00 00 80 00", whole(32768)},
		{"I", "01 02 03 04", whole(0x01020304)},
		{"I", "7f ff ff ff", whole(math.MaxInt32)},
		{"I", "80 00 00 00", whole(math.MinInt32)},
		{"I", "ff ff 7f ff", whole(-32769)},
		{"I", "ff ff ff ff", whole(-1)},
		{"l", "00 00 00 00 00 00 00 00", whole(0)},
		{"l", "00 00 00 00 80 00 00 00", whole(1 << 31)},
		{"l", "01 02 03 04 05 06 07 08", whole(0x0102030405060708)},
		{"l", "7f ff ff ff ff ff ff ff", whole(math.MaxInt)},
		{"l", "80 00 00 00 00 00 00 00", whole(math.MinInt)},
		{"l", "ff ff ff ff 7f ff ff ff", whole(math.MinInt32 - 1)},
		{"l", "ff ff ff ff ff ff ff ff", whole(-1)},
		{"f", "00 00 00 00", real(0)},
		{"f", "80 00 00 00", bitsReal(1 << 63)},
		{"f", "3f 00 00 00", real(0.5)},
		{"f", "3d cc cc cd", bitsReal(0x3fb99999a0000000)},
		{"f", "00 00 00 01", bitsReal(0x36a0000000000000)},
		{"f", "7f 7f ff ff", bitsReal(0x47efffffe0000000)},
		{"f", "7f 80 00 00", bitsReal(0x7ff0000000000000)},
		{"f", "ff 80 00 00", bitsReal(0xfff0000000000000)},
		{"f", "7f c0 00 00", bitsReal(heldNaN)},
		{"f", "7f 80 00 01", bitsReal(heldNaN)},
		{"f", "ff ff ff ff", bitsReal(heldNaN)},
		{"d", "00 00 00 00 00 00 00 00", real(0)},
		{"d", "80 00 00 00 00 00 00 00", bitsReal(1 << 63)},
		{"d", "3f b9 99 99 99 99 99 9a", real(0.1)},
		{"d", "3f e0 00 00 00 00 00 00", real(0.5)},
		{"d", "00 00 00 00 00 00 00 01", bitsReal(1)},
		{"d", "7f ef ff ff ff ff ff ff", real(math.MaxFloat64)},
		{"d", "7f f0 00 00 00 00 00 00", bitsReal(0x7ff0000000000000)},
		{"d", "ff f0 00 00 00 00 00 00", bitsReal(0xfff0000000000000)},
		{"d", "7f f8 00 00 00 00 00 01", bitsReal(heldNaN)},
		{"d", "7f f8 00 00 00 00 00 00", bitsReal(heldNaN)},
		{"d", "7f f0 00 00 00 00 00 01", bitsReal(heldNaN)},
		{"d", "ff ff ff ff ff ff ff ff", bitsReal(heldNaN)},
		{"S", "00 00 00 00", text("")},
		{"S", "00 00 00 01 00", text("\x00")},
		{"S", "00 00 00 02 68 69", text("hi")},
	} {
		what := fmt.Sprintf("%s %s", c.letter, c.bytes)
		one := field("a", c.letter, raw(c.bytes))
		read(t, what, fields(one), api.Prop{Name: "a", Value: c.want})
		read(t, what+", between others", fields(field("0", "t", "\x00"), one, field("b", "t", "\x01")), api.Prop{Name: "0", Value: truth(0)}, api.Prop{Name: "a", Value: c.want}, api.Prop{Name: "b", Value: truth(1)})
		// A byte less, and one more, is no field.
		unread(t, what+", without the last byte", fields(one[:len(one)-1]))
		unread(t, what+", and a byte", fields(one+"\x00"))
	}
}

func TestP15_1_NoOtherLetter(t *testing.T) {
	for letter := range 256 {
		if strings.ContainsRune("tbsIlfdS", rune(letter)) {
			continue
		}
		for _, bytes := range []string{"", "\x00", "\x01", "\x00\x00", "\x00\x00\x00\x00", "\x00\x00\x00\x00\x00\x00\x00\x00", "\x00\x00\x00\x01x", "\x01x"} {
			unread(t, fmt.Sprintf("letter %d", letter), fields(short("a")+string([]byte{byte(letter)})+bytes))
		}
	}
	unread(t, "no letter", fields(short("a")))
}

func TestP15_1_BoolsOfAllBytes(t *testing.T) {
	for n := range 256 {
		s := fields(field("a", "t", string([]byte{byte(n)})))
		if n < 2 {
			read(t, fmt.Sprint("t ", n), s, api.Prop{Name: "a", Value: truth(n)})
		} else {
			unread(t, fmt.Sprint("t ", n), s)
		}
	}
}

func TestP15_1_Names(t *testing.T) {
	for c := range 256 {
		for _, name := range []string{string([]byte{byte(c)}), "a" + string([]byte{byte(c)}), string([]byte{byte(c)}) + "a"} {
			s := fields(field(name, "b", "\x07"))
			if strings.IndexByte("abcdefghijklmnopqrstuvwxyz0123456789-_", byte(c)) >= 0 {
				read(t, fmt.Sprintf("%q", name), s, api.Prop{Name: name, Value: whole(7)})
			} else {
				unread(t, fmt.Sprintf("%q", name), s)
			}
		}
	}
	for size := range 256 {
		name := strings.Repeat("a", size)
		s := fields(field(name, "b", "\x07"))
		if 1 <= size && size <= maxName {
			read(t, fmt.Sprint("a name of ", size), s, api.Prop{Name: name, Value: whole(7)})
		} else {
			unread(t, fmt.Sprint("a name of ", size), s)
		}
	}
}

func TestP15_1_Texts(t *testing.T) {
	for _, size := range []int{0, 1, 2, 127, 128, 255, 256} {
		s := strings.Repeat("\xfe", size)
		read(t, fmt.Sprint("a text of ", size), fields(field("a", "S", long(s))), api.Prop{Name: "a", Value: text(s)})
	}
	for _, size := range []int{257, 258, 511, 512, 1023, 1024, 1025, 65535, 65536, 70000} {
		unread(t, fmt.Sprint("a text of ", size), fields(field("a", "S", long(strings.Repeat("x", size)))))
	}
	// A length that tells more than there is, or less.
	for _, n := range []uint64{0, 1, 3, 4, 256, 1 << 16, 1<<31 - 1, 1 << 31, 1<<32 - 2, 1<<32 - 1} {
		unread(t, fmt.Sprint("a text of 2, told as ", n), fields(field("a", "S", big(4, n)+"hi")))
	}
	for _, n := range []uint64{0, 2, 3, 4, 16, 127, 128, 255} {
		unread(t, fmt.Sprint("a name of 1, told as ", n), fields(big(1, n)+"at\x01"))
	}
	// It isn't the bytes behind the table that make up for what is missing.
	for n := uint64(3); n < 20; n++ {
		unread(t, "a text that goes on behind the table", fields(field("a", "S", big(4, n)+"hi"))+strings.Repeat("x", 300))
		unread(t, "a name that goes on behind the table", fields(big(1, n)+"at")+strings.Repeat("t", 300))
	}
	for _, s := range []string{"b", "s\x00", "I\x00\x00\x00", "l\x00\x00\x00\x00\x00\x00\x00", "f\x00\x00\x00", "d\x00\x00\x00\x00\x00\x00\x00", "t", "S\x00\x00\x00", ""} {
		unread(t, "a value that goes on behind the table", fields(short("a")+s)+strings.Repeat("\x00", 300))
	}
}

// many: so many fields, each with a name of its own.
func many(n int) (list []string, props []api.Prop) {
	for at := range n {
		name := fmt.Sprintf("n%05d", at)
		list = append(list, field(name, "s", big(2, uint64(at))))
		props = append(props, api.Prop{Name: name, Value: whole(int(int16(at)))})
	}
	return list, props
}

func TestP15_1_HowMany(t *testing.T) {
	for n := range 40 {
		list, props := many(n)
		for range 2 {
			if n <= maxProps {
				read(t, fmt.Sprint(n, " fields"), fields(list...), props...)
			} else {
				unread(t, fmt.Sprint(n, " fields"), fields(list...))
			}
			slices.Reverse(list)
		}
	}
	list, _ := many(50000)
	unread(t, "very many", fields(list...))
}

func TestP15_1_ANameTwice(t *testing.T) {
	a, b, c := field("a", "b", "\x01"), field("b", "t", "\x01"), field("c", "S", long("x"))
	for _, list := range [][]string{{a, a}, {a, b, a}, {b, a, a}, {a, a, b}, {b, c, b}, {a, field("a", "s", "\x00\x01")}, {a, field("a", "t", "\x01")}, {c, b, a, field("c", "b", "\x00")}} {
		unread(t, fmt.Sprintf("%q", list), fields(list...))
	}
	list, _ := many(maxProps)
	unread(t, "the last as the first", fields(append(list[:maxProps-1], list[0])...))
}

func TestP15_1_LengthsOfTables(t *testing.T) {
	inner := field("a", "t", "\x01") + field("bc", "S", long("xyz")) + field("d", "d", raw("3f b9 99 99 99 99 99 9a"))
	ends := []int{0, 4, 4 + 11, 4 + 11 + 11}
	for n := range 300 {
		s := big(4, uint64(n)) + inner
		at := slices.Index(ends, n)
		if at < 0 {
			unread(t, fmt.Sprint("a length of ", n), s)
			continue
		}
		all := []api.Prop{{Name: "a", Value: truth(1)}, {Name: "bc", Value: text("xyz")}, {Name: "d", Value: real(0.1)}}
		read(t, fmt.Sprint("a length of ", n), s[:4+n], all[:at]...)
		is(t, fmt.Sprint("a length of ", n), take(s), takes{all[:at], 4 + n, ok})
	}
	for _, n := range []uint64{1 << 8, 1 << 16, 1 << 24, 1<<31 - 1, 1 << 31, 1<<31 + 26, 1<<32 - 1, 1<<32 - 4} {
		unread(t, fmt.Sprint("a length of ", n), big(4, n)+inner)
		unread(t, fmt.Sprint("a length of ", n), big(4, n))
	}
	unread(t, "the low byte first", raw("1a 00 00 00")+inner)
}

func TestP15_1_BeginningsOfTables(t *testing.T) {
	var all []api.Prop
	for at, c := range written()[len(written())-maxProps:] {
		all = append(all, api.Prop{Name: string(rune('a' + at)), Value: c.v})
	}
	for _, list := range [][]api.Prop{nil, {{Name: "a", Value: truth(1)}}, {{Name: "abc", Value: text("hello")}, {Name: "b", Value: whole(-5)}}, all} {
		b, _ := twinPut(list)
		for at := range b {
			unread(t, fmt.Sprintf("%q, cut", b[:at]), b[:at])
			// Its length told anew, it is one just where a field ends.
			if at >= 4 {
				is(t, "its length told anew", take(long(b[4:at])), twinTake(long(b[4:at])))
			}
		}
		for c := range 256 {
			behind := string([]byte{byte(c)})
			is(t, "a byte behind", take(b+behind), takes{list, len(b), ok})
			unread(t, "a byte behind, told", long(b[4:]+behind))
		}
	}
	is(t, "no field", take(raw("00 00 00 00")), takes{nil, 4, ok})
}

func TestP15_1_WhatCantBeAMessages(t *testing.T) {
	for what, s := range map[string]string{
		"no name":                fields(field("", "t", "\x01")),
		"a great letter":         fields(field("A", "t", "\x01")),
		"a dot":                  fields(field("a.b", "t", "\x01")),
		"a wrong one among all":  fields(field("a", "t", "\x01"), field("b", "t", "\x02"), field("c", "t", "\x01")),
		"a wrong name at last":   fields(field("a", "t", "\x01"), field("B", "t", "\x01")),
		"a letter without bytes": fields(field("a", "t", "")),
		"a table in it":          fields(field("a", "F", fields())),
		"nothing":                fields(field("a", "V", "")),
		"a list":                 fields(field("a", "A", long(""))),
		"unsigned":               fields(field("a", "B", "\x01")),
		"a short text":           fields(field("a", "s", short("x"))[:3]),
	} {
		unread(t, what, s)
	}
}

// someField: a property as a field, written in one of all ways that tell it.
func someField(r *rand.Rand, p api.Prop) string {
	v := p.Value
	b := uint64(v.Num)
	var ways [][2]string
	switch v.Kind {
	case vBool:
		ways = append(ways, [2]string{"t", big(1, b)})
	case vText:
		ways = append(ways, [2]string{"S", long(v.Text)})
	case vInt:
		ways = append(ways, [2]string{"l", big(8, b)})
		if v.Num == int(int32(v.Num)) {
			ways = append(ways, [2]string{"I", big(4, b)})
		}
		if v.Num == int(int16(v.Num)) {
			ways = append(ways, [2]string{"s", big(2, b)})
		}
		if v.Num == int(int8(v.Num)) {
			ways = append(ways, [2]string{"b", big(1, b)})
		}
	case vReal:
		ways = append(ways, [2]string{"d", big(8, math.Float64bits(v.Real))})
		narrow := float32(v.Real)
		if v.Real != v.Real {
			ways = append(ways, [2]string{"d", big(8, 0x7ff<<52|r.Uint64()|1)}, [2]string{"f", big(4, 0x7f800001|r.Uint64()<<1)}, [2]string{"f", "\xff\xc0\x00\x00"})
		} else if float64(narrow) == v.Real {
			ways = append(ways, [2]string{"f", big(4, uint64(math.Float32bits(narrow)))})
		}
	}
	way := one(r, ways...)
	return field(p.Name, way[0], way[1])
}

func TestP15_3_EachIntInEachWidth(t *testing.T) {
	for _, n := range []int{0, 1, -1, 5, 126, 127, -127, -128, 128, -129, 255, 256, 32767, -32768, 32768, -32769, 65535, math.MaxInt32, math.MinInt32, math.MaxInt32 + 1, math.MinInt32 - 1, 1 << 40, math.MaxInt, math.MinInt} {
		for _, w := range []struct {
			letter string
			size   int
		}{{"b", 1}, {"s", 2}, {"I", 4}, {"l", 8}} {
			if low := -1 << (8*w.size - 1); n < low || n > -(low+1) {
				continue
			}
			read(t, fmt.Sprint(n, " as ", w.letter), fields(field("n", w.letter, big(w.size, uint64(n)))), api.Prop{Name: "n", Value: whole(n)})
		}
	}
}

func TestP15_3_EachFloatInBothWidths(t *testing.T) {
	r := rand.New(rand.NewSource(154))
	bits := []uint32{0, 1 << 31, 1, 0x007fffff, 0x00800000, 0x3f000000, 0x3dcccccd, 0x7f7fffff, 0x7f800000, 0xff800000}
	for range 20000 {
		bits = append(bits, r.Uint32())
	}
	for _, b := range bits {
		x := math.Float32frombits(b)
		narrow, wide := fields(field("x", "f", big(4, uint64(b)))), fields(field("x", "d", big(8, math.Float64bits(float64(x)))))
		want := bitsReal(heldNaN)
		if x == x {
			want = real(float64(x))
		}
		is(t, fmt.Sprintf("f %08x", b), take(narrow), takes{[]api.Prop{{Name: "x", Value: want}}, 11, ok})
		is(t, fmt.Sprintf("d of f %08x", b), take(wide), takes{[]api.Prop{{Name: "x", Value: want}}, 15, ok})
	}
}

// orders goes over all orders of a list.
func orders(list []string, at int, do func()) {
	if at == len(list) {
		do()
		return
	}
	for other := at; other < len(list); other++ {
		list[at], list[other] = list[other], list[at]
		orders(list, at+1, do)
		list[at], list[other] = list[other], list[at]
	}
}

func TestP15_3_FieldsInAllOrders(t *testing.T) {
	want := []api.Prop{{Name: "-", Value: truth(1)}, {Name: "0", Value: whole(-5)}, {Name: "_", Value: text("b")}, {Name: "a", Value: real(0.1)}, {Name: "a-", Value: bitsReal(heldNaN)}, {Name: "aa", Value: bitsReal(1 << 63)}}
	r := rand.New(rand.NewSource(155))
	var list []string
	for _, p := range want {
		list = append(list, someField(r, p))
	}
	count := 0
	orders(list, 0, func() {
		read(t, "an order", fields(list...), want...)
		count++
	})
	is(t, "how many orders", count, 720)
}

func TestP15_3_HoweverTheyAreWritten(t *testing.T) {
	t.Parallel()
	r := rand.New(rand.NewSource(156))
	for range 20000 {
		want := someProps(r)
		var list []string
		for _, p := range want {
			list = append(list, someField(r, p))
		}
		r.Shuffle(len(list), func(a, b int) { list[a], list[b] = list[b], list[a] })
		s := fields(list...)
		is(t, "Take", take(s), takes{want, len(s), ok})
		// So in a method, queue.declare.
		head := raw("00 32 00 0a 00 00") + short("q") + "\x05"
		is(t, "Decode", decode(head+s), decodes{api.Method{Class: 50, Id: 10, Nums: []int{0, 5}, Texts: []string{"q"}, Props: want}, ok})
	}
}
