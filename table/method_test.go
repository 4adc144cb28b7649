package table_test

import (
	"fmt"
	"math"
	"math/rand"
	"slices"
	"strings"
	"testing"

	"trivet/api"
)

// goes: that a method has just this payload, and the payload just this method.
func goes(t *testing.T, what string, m api.Method, b string) {
	t.Helper()
	is(t, "Encode: "+what, encode(m), puts{b, ok})
	is(t, "Decode: "+what, decode(b), decodes{m, ok})
}

// stays: that a method has no payload.
func stays(t *testing.T, what string, m api.Method) {
	t.Helper()
	is(t, "Encode: "+what, encode(m), puts{err: errArg})
}

// unmade: that a payload is no method's.
func unmade(t *testing.T, what, b string) {
	t.Helper()
	is(t, "Decode: "+what, decode(b), decodes{err: errForm})
}

func TestP15_1_PayloadsByteByByte(t *testing.T) {
	a := []api.Prop{{Name: "a", Value: truth(1)}}
	tableA := raw("00 00 00 04 01 61 74 01")
	for _, c := range []struct {
		m api.Method
		b string
	}{
		{api.Method{Class: 10, Id: 10, Nums: []int{0, 9}, Texts: []string{"PLAIN", "en_US"}, Props: a}, raw("00 0a 00 0a 00 09") + tableA + raw("00 00 00 05") + "PLAIN" + raw("00 00 00 05") + "en_US"},
		{api.Method{Class: 10, Id: 11, Texts: []string{"PLAIN", "\x00guest\x00guest", "en_US"}, Props: a}, raw("00 0a 00 0b") + tableA + raw("05") + "PLAIN" + raw("00 00 00 0c") + "\x00guest\x00guest" + raw("05") + "en_US"},
		{api.Method{Class: 10, Id: 30, Nums: []int{1, 16384, 60}}, raw("00 0a 00 1e 00 01 00 00 40 00 00 3c")},
		{api.Method{Class: 10, Id: 31, Nums: []int{0x0102, 0x03040506, 0x0708}}, raw("00 0a 00 1f 01 02 03 04 05 06 07 08")},
		{api.Method{Class: 10, Id: 40, Nums: []int{1}, Texts: []string{"/", ""}}, raw("00 0a 00 28 01") + "/" + raw("00 01")},
		{api.Method{Class: 10, Id: 41, Texts: []string{""}}, raw("00 0a 00 29 00")},
		{api.Method{Class: 10, Id: 50, Nums: []int{320, 50, 20}, Texts: []string{"bye"}}, raw("00 0a 00 32 01 40 03") + "bye" + raw("00 32 00 14")},
		{api.Method{Class: 10, Id: 51}, raw("00 0a 00 33")},
		{api.Method{Class: 20, Id: 11, Texts: []string{"xyz"}}, raw("00 14 00 0b 00 00 00 03") + "xyz"},
		{api.Method{Class: 50, Id: 11, Nums: []int{3, 4294967295}, Texts: []string{"q"}}, raw("00 32 00 0b 01 71 00 00 00 03 ff ff ff ff")},
		{api.Method{Class: 50, Id: 20, Nums: []int{0, 2}, Texts: []string{"q", "x", "a.*"}, Props: a}, raw("00 32 00 14 00 00 01 71 01 78 03") + "a.*" + raw("02") + tableA},
		{api.Method{Class: 50, Id: 20, Nums: []int{0, 2}, Texts: []string{"q", "x", "a.*"}}, raw("00 32 00 14 00 00 01 71 01 78 03") + "a.*" + raw("02 00 00 00 00")},
		{api.Method{Class: 60, Id: 60, Nums: []int{math.MaxInt, 1}, Texts: []string{"c", "x", "k"}}, raw("00 3c 00 3c 01 63 7f ff ff ff ff ff ff ff 01 01 78 01 6b")},
		{api.Method{Class: 60, Id: 71, Nums: []int{7, 0, 9}, Texts: []string{"x", "k"}}, raw("00 3c 00 47 00 00 00 00 00 00 00 07 00 01 78 01 6b 00 00 00 09")},
		{api.Method{Class: 60, Id: 120, Nums: []int{1, 255}}, raw("00 3c 00 78 00 00 00 00 00 00 00 01 ff")},
		{api.Method{Class: 85, Id: 10, Nums: []int{1}}, raw("00 55 00 0a 01")},
		{api.Method{Class: 90, Id: 31}, raw("00 5a 00 1f")},
	} {
		goes(t, fmt.Sprintf("%#v", c.m), c.m, c.b)
	}
}

func TestP15_1_EachMethod(t *testing.T) {
	for _, k := range kinds() {
		m := plain(k)
		b := twinEncode(m)
		is(t, k.name+": the twin", b.err, ok)
		goes(t, k.name, m, b.b)
	}
}

// places: of each number (or text) of a form its letter.
func places(form, letters string) []byte {
	return slices.DeleteFunc([]byte(form), func(c byte) bool { return !strings.Contains(letters, string(c)) })
}

// most: the greatest number of a letter.
func most(letter byte) uint64 {
	return map[byte]uint64{'o': 255, 'b': 255, 'h': 65535, 'l': 4294967295, 'L': 9223372036854775807}[letter]
}

func TestP15_1_NumbersAtTheirEdges(t *testing.T) {
	edges := []uint64{0, 1, 127, 128, 254, 255, 256, 257, 32767, 32768, 65535, 65536, 65537, 1 << 24, 1<<31 - 1, 1 << 31, 1<<32 - 1, 1 << 32, 1<<32 + 1, 1 << 40, 1 << 62, math.MaxInt64}
	for _, k := range kinds() {
		for at, letter := range places(k.form, "ohlLb") {
			for _, n := range edges {
				m := plain(k)
				m.Nums[at] = int(n)
				what := fmt.Sprintf("%s, number %d is %d", k.name, at, n)
				if n <= most(letter) {
					goes(t, what, m, twinEncode(m).b)
				} else {
					stays(t, what, m)
				}
			}
			for _, n := range []int{-1, -2, -128, -255, -256, math.MinInt32, math.MinInt + 1, math.MinInt} {
				m := plain(k)
				m.Nums[at] = n
				stays(t, fmt.Sprintf("%s, number %d is %d", k.name, at, n), m)
			}
		}
	}
}

func TestP15_1_NumbersBeyondAnInt(t *testing.T) {
	for _, k := range with("L") {
		m := plain(k)
		m.Nums[0] = 0x0123456789abcdef
		b := twinEncode(m).b
		for _, n := range []uint64{1 << 63, 1<<63 + 1, 1<<64 - 2, 1<<64 - 1} {
			unmade(t, fmt.Sprint(k.name, " of ", n), strings.Replace(b, big(8, 0x0123456789abcdef), big(8, n), 1))
		}
		m.Nums[0] = math.MaxInt
		is(t, k.name, decode(strings.Replace(b, big(8, 0x0123456789abcdef), big(8, 1<<63-1), 1)), decodes{m, ok})
	}
}

func TestP15_1_TextsAtTheirEdges(t *testing.T) {
	for _, k := range kinds() {
		for at, letter := range places(k.form, "sS") {
			longest := map[byte]int{'s': 255, 'S': 1024}[letter]
			for _, size := range []int{0, 1, 254, 255, 256, 257, 511, 512, 1023, 1024, 1025, 1280, 2048, 65536, 70000} {
				m := plain(k)
				m.Texts[at] = strings.Repeat("\xf0", size)
				what := fmt.Sprintf("%s, text %d has %d bytes", k.name, at, size)
				if size <= longest {
					goes(t, what, m, twinEncode(m).b)
					continue
				}
				stays(t, what, m)
				if letter == 'S' {
					unmade(t, what, by(k, m))
				}
			}
		}
	}
}

// by: what a form's letters tell of a method, whether it fits or not.
func by(k kind, m api.Method) string {
	b := big(2, uint64(k.class)) + big(2, uint64(k.id))
	for _, letter := range k.form {
		switch letter {
		case 's':
			b, m.Texts = b+short(m.Texts[0]), m.Texts[1:]
		case 'S':
			b, m.Texts = b+long(m.Texts[0]), m.Texts[1:]
		case 'T':
			x, _ := twinPut(m.Props)
			b += x
		default:
			b, m.Nums = b+big(map[rune]int{'o': 1, 'b': 1, 'h': 2, 'l': 4, 'L': 8}[letter], uint64(m.Nums[0])), m.Nums[1:]
		}
	}
	return b
}

func TestP15_1_LengthsOfTexts(t *testing.T) {
	// channel.open-ok, whose one text is long, and channel.open, whose one is short.
	for n := range uint64(1100) {
		if n != 5 {
			unmade(t, fmt.Sprint("a long text of 5, told as ", n), raw("00 14 00 0b")+big(4, n)+"hello")
		}
	}
	for _, n := range []uint64{1 << 16, 1<<31 - 1, 1 << 31, 1<<31 + 5, 1<<32 - 1} {
		unmade(t, fmt.Sprint("a long text of 5, told as ", n), raw("00 14 00 0b")+big(4, n)+"hello")
	}
	for n := range uint64(256) {
		if n != 5 {
			unmade(t, fmt.Sprint("a short text of 5, told as ", n), raw("00 14 00 0a")+big(1, n)+"hello")
		}
	}
	is(t, "a long text of 5", decode(raw("00 14 00 0b 00 00 00 05")+"hello"), decodes{api.Method{Class: 20, Id: 11, Texts: []string{"hello"}}, ok})
	is(t, "a short text of 5", decode(raw("00 14 00 0a 05")+"hello"), decodes{api.Method{Class: 20, Id: 10, Texts: []string{"hello"}}, ok})
}

func TestP15_1_TooFewAndTooMany(t *testing.T) {
	for _, k := range kinds() {
		m := plain(k)
		for at := range m.Nums {
			few := m
			few.Nums = slices.Delete(slices.Clone(m.Nums), at, at+1)
			stays(t, k.name+": a number too few", few)
		}
		for at := range m.Texts {
			few := m
			few.Texts = slices.Delete(slices.Clone(m.Texts), at, at+1)
			stays(t, k.name+": a text too few", few)
		}
		if len(m.Nums) > 0 {
			less := m
			less.Nums = nil
			stays(t, k.name+": no number", less)
		}
		if len(m.Texts) > 0 {
			less := m
			less.Texts = nil
			stays(t, k.name+": no text", less)
		}
		for _, n := range []int{0, 1, -1} {
			more := m
			more.Nums = append(slices.Clone(m.Nums), n)
			stays(t, k.name+": a number too many", more)
		}
		for _, s := range []string{"", "x"} {
			more := m
			more.Texts = append(slices.Clone(m.Texts), s)
			stays(t, k.name+": a text too many", more)
		}
		// One too few of these, and one too many of those.
		if len(m.Nums) > 0 {
			other := m
			other.Nums, other.Texts = m.Nums[1:], append(slices.Clone(m.Texts), "x")
			stays(t, k.name+": a text for a number", other)
		}
	}
}

func TestP15_1_PropertiesOfMethods(t *testing.T) {
	for _, k := range kinds() {
		m := plain(k)
		if !strings.Contains(k.form, "T") {
			for _, list := range [][]api.Prop{{{Name: "a", Value: truth(1)}}, {{}}, {{Name: "a", Value: truth(1)}, {Name: "b", Value: whole(2)}}} {
				m.Props = list
				stays(t, k.name+": properties without a T", m)
			}
			m.Props = []api.Prop{}
			goes(t, k.name+": an empty list", m, by(k, m))
			continue
		}
		m.Props = nil
		goes(t, k.name+": no property", m, by(k, m))
		for at := range maxProps {
			m.Props = append(m.Props, api.Prop{Name: string(rune('a' + at)), Value: written()[at].v})
			goes(t, fmt.Sprint(k.name, ": properties: ", at+1), m, by(k, m))
		}
		for what, list := range wrong() {
			m.Props = list
			stays(t, k.name+": "+what, m)
		}
	}
}

func TestP15_1_BeginningsOfPayloads(t *testing.T) {
	for _, k := range kinds() {
		m := plain(k)
		b := by(k, m)
		for at := range b {
			unmade(t, fmt.Sprint(k.name, ", cut at ", at), b[:at])
		}
		for c := range 256 {
			unmade(t, k.name+", a byte behind", b+string([]byte{byte(c)}))
		}
		unmade(t, k.name+", twice", b+b)
	}
	unmade(t, "nothing", "")
}

// A wrong table in a method is wrong wherever it stands.
func TestP15_1_WrongTablesInMethods(t *testing.T) {
	for _, k := range with("T") {
		m := plain(k)
		m.Props = []api.Prop{{Name: "a", Value: truth(1)}}
		b := by(k, m)
		good := raw("00 00 00 04 01 61 74 01")
		for what, bad := range map[string]string{
			"a bool of 2":      raw("00 00 00 04 01 61 74 02"),
			"another letter":   raw("00 00 00 04 01 61 75 01"),
			"a great letter":   raw("00 00 00 04 01 41 74 01"),
			"more than it has": raw("00 00 00 05 01 61 74 01"),
			"less than it has": raw("00 00 00 03 01 61 74 01"),
			"a name twice":     raw("00 00 00 08 01 61 74 01 01 61 74 01"),
			"a long text":      fields(field("a", "S", long(strings.Repeat("x", 257)))),
		} {
			unmade(t, k.name+": "+what, strings.Replace(b, good, bad, 1))
		}
		list, props := many(maxProps)
		m.Props = props
		is(t, k.name+": sixteen", decode(strings.Replace(b, good, fields(list...), 1)), decodes{m, ok})
		list, _ = many(maxProps + 1)
		unmade(t, k.name+": seventeen", strings.Replace(b, good, fields(list...), 1))
	}
}

func TestP15_2_TakeOfPut(t *testing.T) {
	t.Parallel()
	r := rand.New(rand.NewSource(157))
	for range 20000 {
		list := someProps(r)
		b := put("", list)
		is(t, "Put", b.err, ok)
		is(t, "Take of Put", take(b.b), takes{list, len(b.b), ok})
		is(t, "Take of Put, and more", take(b.b+someText(r, 20)), takes{list, len(b.b), ok})
		is(t, "Put of Take", put("", take(b.b).list), b)
	}
}

func TestP15_2_DecodeOfEncode(t *testing.T) {
	t.Parallel()
	r := rand.New(rand.NewSource(158))
	for range 20000 {
		m := someMethod(r)
		b := encode(m)
		is(t, "Encode", b.err, ok)
		is(t, "Decode of Encode", decode(b.b), decodes{m, ok})
		is(t, "Encode of Decode", encode(decode(b.b).m), b)
	}
}

func TestP1_BytesOfAllSizes(t *testing.T) {
	r := rand.New(rand.NewSource(159))
	for size := range 3000 {
		b := make([]byte, size/10)
		r.Read(b)
		for at := range min(len(b), r.Intn(8)) {
			b[at] = 0
		}
		is(t, "Take", take(string(b)), twinTake(string(b)))
		is(t, "Decode", decode(string(b)), twinDecode(string(b)))
	}
	huge := strings.Repeat("\x00", 1<<24)
	is(t, "Take", take(huge), takes{nil, 4, ok})
	unread(t, "many bytes of no table", raw("00 ff ff fc")+huge)
	unread(t, "one huge name after the other", raw("01 00 00 00")+strings.Repeat("\x01at\x01", 1<<22))
	unmade(t, "huge", huge)
	stays(t, "huge", api.Method{Class: 60, Id: 80, Nums: make([]int, 1<<20)})
	stays(t, "huge", api.Method{Class: 20, Id: 10, Texts: []string{huge}})
	stays(t, "huge", api.Method{Class: 20, Id: 11, Texts: []string{huge}})
}
