package aframe_test

import (
	"fmt"
	"math"
	"math/rand"
	"slices"
	"strings"
	"testing"

	"trivet/api"
	"trivet/table"
)

// The table {a: true}, and its bytes.
var (
	listA  = []api.Prop{{Name: "a", Value: truth(1)}}
	tableA = raw("00 00 00 04 01 61 74 01")
)

// tells: that a header has just these bytes, and these bytes tell just it.
func tells(t *testing.T, what string, size int, list []api.Prop, durable bool, b string) {
	t.Helper()
	is(t, "Head: "+what, head(size, list, durable), encodes{b, ok})
	reading(t, "ReadHead: "+what, b, reads{size, list, durable, ok})
}

// unread: that bytes are no header.
func unread(t *testing.T, what, s string) {
	t.Helper()
	reading(t, what, s, reads{err: errForm})
}

func TestP16_1_ExampleOfHead(t *testing.T) {
	tells(t, "the chapter's", 5, nil, true, raw("00 3c 00 00 00 00 00 00 00 00 00 05 10 00 02"))
}

func TestP16_1_HeadsByteByByte(t *testing.T) {
	many := []api.Prop{{Name: "a", Value: whole(-5)}, {Name: "b", Value: truth(0)}, {Name: "c", Value: text("hi")}, {Name: "d", Value: real(0.5)}, {Name: "e", Value: real(0.1)}, {Name: "f", Value: bitsReal(1 << 63)}, {Name: "g", Value: bitsReal(heldNaN)}}
	tableMany := raw("00 00 00 38 01 61 6c ff ff ff ff ff ff ff fb 01 62 74 00 01 63 53 00 00 00 02 68 69 01 64 66 3f 00 00 00 01 65 64 3f b9 99 99 99 99 99 9a 01 66 66 80 00 00 00 01 67 66 7f c0 00 00")
	for _, c := range []struct {
		size    int
		list    []api.Prop
		durable bool
		b       string
	}{
		{0, nil, false, raw("00 3c 00 00 00 00 00 00 00 00 00 00 10 00 01")},
		{0, []api.Prop{}, true, raw("00 3c 00 00 00 00 00 00 00 00 00 00 10 00 02")},
		{1024, nil, false, raw("00 3c 00 00 00 00 00 00 00 00 04 00 10 00 01")},
		{1024, nil, true, raw("00 3c 00 00 00 00 00 00 00 00 04 00 10 00 02")},
		{5, listA, true, raw("00 3c 00 00 00 00 00 00 00 00 00 05 30 00") + tableA + "\x02"},
		{0, listA, false, raw("00 3c 00 00 00 00 00 00 00 00 00 00 30 00") + tableA + "\x01"},
		{1024, listA, false, raw("00 3c 00 00 00 00 00 00 00 00 04 00 30 00") + tableA + "\x01"},
		{258, many, true, raw("00 3c 00 00 00 00 00 00 00 00 01 02 30 00") + tableMany + "\x02"},
	} {
		tells(t, fmt.Sprintf("%d, %d properties, %v", c.size, len(c.list), c.durable), c.size, c.list, c.durable, c.b)
	}
}

func TestP16_1_HeadsOfEachSize(t *testing.T) {
	for size := 0; size <= maxBody; size++ {
		tells(t, fmt.Sprint(size), size, nil, false, header(uint64(size), 4096)+"\x01")
		tells(t, fmt.Sprint(size), size, nil, true, header(uint64(size), 4096)+"\x02")
		tells(t, fmt.Sprint(size), size, listA, false, header(uint64(size), 12288)+tableA+"\x01")
		tells(t, fmt.Sprint(size), size, listA, true, header(uint64(size), 12288)+tableA+"\x02")
		// Without a mode, and with a table of nothing, as Head never writes it.
		reading(t, "without a mode", header(uint64(size), 0), reads{size, nil, false, ok})
		reading(t, "without a mode", header(uint64(size), 8192)+tableA, reads{size, listA, false, ok})
		reading(t, "a table of nothing", header(uint64(size), 12288)+raw("00 00 00 00 02"), reads{size, nil, true, ok})
		reading(t, "a table of nothing", header(uint64(size), 8192)+raw("00 00 00 00"), reads{size, nil, false, ok})
	}
}

func TestP16_1_SizesOfNoBody(t *testing.T) {
	for _, size := range []int{-1, -2, -5, -1024, -65536, 1025, 1026, 1279, 2048, 65536, 65541, 1 << 24, math.MaxInt32, math.MinInt32, 1 << 32, 1<<32 + 5, math.MaxInt - 1, math.MaxInt, math.MinInt, math.MinInt + 5} {
		for _, list := range [][]api.Prop{nil, listA} {
			for _, durable := range []bool{false, true} {
				is(t, fmt.Sprint("Head of ", size), head(size, list, durable), encodes{err: errArg})
			}
		}
	}
	over := []uint64{1025, 1026, 1279, 65541, 1<<32 + 5, 1<<63 - 1, 1<<63 + 1, 1<<63 + 5, 1<<63 + 1024, 1<<64 - 1024, 1<<64 - 5, 1<<64 - 2, 1<<64 - 1}
	for bit := 11; bit < 64; bit++ {
		over = append(over, 1<<bit)
	}
	for _, size := range over {
		for _, rest := range []string{header(size, 0), header(size, 4096) + "\x01", header(size, 4096) + "\x02", header(size, 8192) + tableA, header(size, 12288) + tableA + "\x01", header(size, 12288) + tableA + "\x02"} {
			reading(t, fmt.Sprint("ReadHead of ", size), rest, reads{err: errLong})
			// Bytes of another form are told first.
			for _, behind := range []string{"\x00", "\x01", "\x02", "more"} {
				if len(rest) > 14 || behind == "more" {
					unread(t, fmt.Sprint("ReadHead of ", size, ", and more"), rest+behind)
				}
			}
			for at := range rest {
				unread(t, fmt.Sprint("ReadHead of ", size, ", cut"), rest[:at])
			}
			unread(t, fmt.Sprint("ReadHead of ", size, ", another beginning"), "\x01"+rest[1:])
		}
		unread(t, "too long, other flags", header(size, 2048))
		unread(t, "too long, another mode", header(size, 4096)+"\x03")
		unread(t, "too long, without a mode", header(size, 4096))
		unread(t, "too long, a table that is none", header(size, 8192)+raw("00 00 00 04 01 61 74 02"))
	}
}

// wrong: properties that can't be a message's.
func wrong() map[string][]api.Prop {
	all := map[string][]api.Prop{
		"zeros":                 {{}},
		"no name":               {{Value: whole(1)}},
		"a name of 17":          {{Name: strings.Repeat("a", 17), Value: whole(1)}},
		"a great letter":        {{Name: "A", Value: whole(1)}},
		"falling":               {{Name: "b", Value: whole(1)}, {Name: "a", Value: whole(1)}},
		"twice":                 {{Name: "a", Value: whole(1)}, {Name: "a", Value: whole(1)}},
		"no value":              {{Name: "a"}},
		"kind 5":                {{Name: "a", Value: api.Value{Kind: 5}}},
		"truth 2":               {{Name: "a", Value: truth(2)}},
		"a text of 257":         {{Name: "a", Value: text(strings.Repeat("x", 257))}},
		"another NaN":           {{Name: "a", Value: bitsReal(0x7ff8000000000000)}},
		"an int with a text":    {{Name: "a", Value: api.Value{Kind: 1, Text: "x"}}},
		"a wrong one at last":   {{Name: "a", Value: whole(1)}, {Name: "b", Value: truth(-1)}},
		"a wrong one at first":  {{Name: "", Value: whole(1)}, {Name: "b", Value: truth(1)}},
		"a wrong one among all": {{Name: "a", Value: whole(1)}, {Name: "B", Value: truth(1)}, {Name: "c", Value: whole(1)}},
	}
	for at := range 17 {
		all["17"] = append(all["17"], api.Prop{Name: string(rune('a' + at)), Value: whole(at)})
	}
	return all
}

func TestP16_1_PropertiesThatCantBe(t *testing.T) {
	for what, list := range wrong() {
		for _, size := range []int{0, 1, 1024} {
			is(t, what, head(size, list, true), encodes{err: errMsg})
			is(t, what, head(size, list, false), encodes{err: errMsg})
		}
		// Of both the one that is named first.
		for _, size := range []int{-1, 1025, math.MinInt, math.MaxInt} {
			is(t, what+", and no size", head(size, list, true), encodes{err: errArg})
		}
	}
}

func TestP16_1_HowManyProperties(t *testing.T) {
	var list []api.Prop
	for at := range 16 {
		// The longest there is: sixteen names of sixteen bytes, each with a text of 256.
		list = append(list, api.Prop{Name: fmt.Sprintf("%016d", at), Value: text(strings.Repeat("x", 256))})
		b, err := table.Put(nil, list)
		is(t, "Put", err, ok)
		tells(t, fmt.Sprint(at+1, " properties"), 7, list, true, header(7, 12288)+string(b)+"\x02")
	}
}

func TestP16_1_ShorterThanFourteen(t *testing.T) {
	for _, b := range []string{header(0, 0), header(1024, 0), strings.Repeat("\x00", 14), raw("00 3c 00 3c 00 3c 00 3c 00 3c 00 3c 00 3c")} {
		for at := range 14 {
			unread(t, fmt.Sprint("bytes: ", at), b[:at])
		}
	}
	reading(t, "fourteen", header(0, 0), reads{err: ok})
	unread(t, "fourteen noughts", strings.Repeat("\x00", 14))
}

// All headers of which each proper beginning, and each byte behind, is looked at.
func TestP16_1_BeginningsAndWhatIsBehind(t *testing.T) {
	rests := map[string]reads{
		header(9, 0):                                {size: 9},
		header(9, 4096) + "\x01":                    {size: 9},
		header(9, 4096) + "\x02":                    {size: 9, durable: true},
		header(9, 8192) + tableA:                    {size: 9, list: listA},
		header(9, 12288) + tableA + "\x01":          {size: 9, list: listA},
		header(9, 12288) + tableA + "\x02":          {size: 9, list: listA, durable: true},
		header(9, 8192) + raw("00 00 00 00"):        {size: 9},
		header(1024, 12288) + raw("00 00 00 00 02"): {size: 1024, durable: true},
		header(0, 12288) + tableA + "\x01":          {list: listA},
	}
	for b, want := range rests {
		reading(t, fmt.Sprintf("%q", b), b, want)
		for at := range b {
			unread(t, fmt.Sprintf("%q", b[:at]), b[:at])
		}
		for c := range 256 {
			unread(t, fmt.Sprintf("%q and %d", b, c), b+char(c))
		}
		unread(t, "twice", b+b)
		unread(t, "a table behind", b+tableA)
		unread(t, "the end of its frame behind", b+"\xce")
	}
}

func TestP16_1_OtherBeginnings(t *testing.T) {
	for _, b := range []string{header(9, 0), header(9, 4096) + "\x02", header(9, 12288) + tableA + "\x01", header(1025, 0)} {
		for at := range 4 {
			for c := range 256 {
				if char(c) != b[at:at+1] {
					unread(t, fmt.Sprint("byte ", at, " is ", c), b[:at]+char(c)+b[at+1:])
				}
			}
		}
	}
	unread(t, "the low byte first", raw("3c 00 00 00")+header(9, 0)[4:])
	unread(t, "another order", raw("00 00 00 3c")+header(9, 0)[4:])
}

func TestP16_1_AllFlags(t *testing.T) {
	wants := map[string]reads{
		big(2, 0):                       {size: 9},
		big(2, 4096) + "\x01":           {size: 9},
		big(2, 4096) + "\x02":           {size: 9, durable: true},
		big(2, 8192) + tableA:           {size: 9, list: listA},
		big(2, 12288) + tableA + "\x01": {size: 9, list: listA},
		big(2, 12288) + tableA + "\x02": {size: 9, list: listA, durable: true},
	}
	for flags := range uint64(65536) {
		for _, rest := range []string{"", "\x00", "\x01", "\x02", tableA, tableA + "\x01", tableA + "\x02", "\x02" + tableA} {
			want, there := wants[big(2, flags)+rest]
			if !there {
				want = reads{err: errForm}
			}
			reading(t, fmt.Sprintf("flags %d, %q", flags, rest), header(9, flags)+rest, want)
		}
	}
}

func TestP16_1_Modes(t *testing.T) {
	for c := range 256 {
		bare, full := header(9, 4096)+char(c), header(9, 12288)+tableA+char(c)
		if c == 1 || c == 2 {
			reading(t, fmt.Sprint("mode ", c), bare, reads{9, nil, c == 2, ok})
			reading(t, fmt.Sprint("mode ", c), full, reads{9, listA, c == 2, ok})
			continue
		}
		unread(t, fmt.Sprint("mode ", c), bare)
		unread(t, fmt.Sprint("mode ", c), full)
	}
	unread(t, "no mode, though the flags tell one", header(9, 4096))
	unread(t, "no mode, though the flags tell one", header(9, 12288)+tableA)
	unread(t, "a mode, though the flags tell none", header(9, 0)+"\x01")
	unread(t, "a mode, though the flags tell none", header(9, 8192)+tableA+"\x02")
	unread(t, "the mode ahead of the table", header(9, 12288)+"\x02"+tableA)
}

func TestP16_1_Tables(t *testing.T) {
	for what, bad := range map[string]string{
		"nothing":          "",
		"a length alone":   raw("00 00 00 04"),
		"a bool of 2":      raw("00 00 00 04 01 61 74 02"),
		"another letter":   raw("00 00 00 04 01 61 75 01"),
		"a great letter":   raw("00 00 00 04 01 41 74 01"),
		"no name":          raw("00 00 00 03 00 74 01"),
		"more than it has": raw("00 00 00 05 01 61 74 01"),
		"less than it has": raw("00 00 00 03 01 61 74 01"),
		"much more":        raw("ff ff ff ff 01 61 74 01"),
		"a name twice":     raw("00 00 00 08 01 61 74 01 01 61 74 01"),
		"a long text":      raw("00 00 01 08 01 61 53 00 00 01 01") + strings.Repeat("x", 257),
	} {
		unread(t, what, header(9, 8192)+bad)
		for _, mode := range []string{"\x01", "\x02", "\x00"} {
			unread(t, what, header(9, 12288)+bad+mode)
		}
	}
	// What layer 15 reads as the same properties tells the same.
	for _, same := range []string{
		raw("00 00 00 08 01 61 74 01 01 62 62 fb"),
		raw("00 00 00 08 01 62 62 fb 01 61 74 01"),
		raw("00 00 00 09 01 62 73 ff fb 01 61 74 01"),
		raw("00 00 00 0f 01 61 74 01 01 62 6c ff ff ff ff ff ff ff fb"),
	} {
		want := []api.Prop{{Name: "a", Value: truth(1)}, {Name: "b", Value: whole(-5)}}
		reading(t, "in another writing", header(9, 12288)+same+"\x02", reads{9, want, true, ok})
		reading(t, "in another writing", header(9, 8192)+same, reads{9, want, false, ok})
	}
	var fields string
	for at := range 17 {
		fields += "\x01" + char('a'+at) + "t\x01"
		b := big(4, uint64(len(fields))) + fields
		if at < 16 {
			list, _, _ := table.Take(b)
			is(t, "how many", len(list), at+1)
			reading(t, fmt.Sprint(at+1, " fields"), header(9, 8192)+b, reads{9, list, false, ok})
		} else {
			unread(t, "seventeen fields", header(9, 8192)+b)
		}
	}
}

func TestP16_1_HeadsOfAllKindsAsTheTwinReadsThem(t *testing.T) {
	t.Parallel()
	r := rand.New(rand.NewSource(167))
	count := make(map[api.Errno]int)
	for n := range 60000 {
		size := uint64(r.Intn(1030))
		if r.Intn(10) == 0 {
			size = r.Uint64() >> r.Intn(64)
		}
		flags := one(r, uint64(0), 4096, 8192, 12288)
		b := header(size, flags)
		if flags&8192 != 0 {
			list, _ := table.Put(nil, someProps(r))
			b += string(list)
		}
		if flags&4096 != 0 {
			b += one(r, "\x01", "\x02")
		}
		if n%2 > 0 {
			b = spoilt(r, b)
		}
		want := twinReadHead(b)
		reading(t, fmt.Sprintf("ReadHead of %.300q", b), b, want)
		count[want.err]++
	}
	if count[ok] < 20000 || count[errForm] < 20000 || count[errLong] < 1000 || len(count) != 3 {
		t.Errorf("how often what: %v", count)
	}
}

func TestP16_2_ReadHeadOfHead(t *testing.T) {
	t.Parallel()
	r := rand.New(rand.NewSource(168))
	for range 20000 {
		want := reads{size: one(r, 0, maxBody, r.Intn(maxBody+1)), list: someProps(r), durable: r.Intn(2) == 0}
		b := head(want.size, want.list, want.durable)
		is(t, "Head", b.err, ok)
		reading(t, "ReadHead of Head", b.b, want)
		unread(t, "ReadHead of a beginning", b.b[:r.Intn(len(b.b))])
		unread(t, "ReadHead of Head, and more", b.b+char(r.Intn(256)))
		back := readHead(b.b)
		is(t, "Head of ReadHead", head(back.size, back.list, back.durable), b)
		// As it goes in a frame.
		f := api.Frame{Type: 2, Channel: 1, Payload: b.b}
		is(t, "in a frame", next(encode(f).b), nexts{f, len(b.b) + 8, ok})
	}
}

// However a header is written: Head of what it tells is at most that, and tells the same.
func TestP16_2_HeadOfReadHead(t *testing.T) {
	for _, b := range []string{header(9, 0), header(9, 8192) + tableA, header(9, 8192) + raw("00 00 00 00"), header(9, 12288) + raw("00 00 00 00 02")} {
		got := readHead(b)
		again := head(got.size, got.list, got.durable)
		is(t, "Head", again.err, ok)
		back := readHead(again.b)
		if !slices.EqualFunc(back.list, got.list, sameProp) || back.size != got.size || back.durable != got.durable {
			t.Errorf("%q: %#v, then %#v", b, got, back)
		}
	}
}
