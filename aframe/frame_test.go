package aframe_test

import (
	"fmt"
	"math"
	"math/rand"
	"slices"
	"strings"
	"testing"

	"trivet/aframe"
	"trivet/api"
)

// goes: that a frame has just these bytes, and these bytes just this frame, whatever stands behind.
func goes(t *testing.T, what string, f api.Frame, b string) {
	t.Helper()
	is(t, "Encode: "+what, encode(f), encodes{b, ok})
	for _, behind := range []string{"", "\x08", "G", "\xce", "more", frame(8, 0, "")} {
		is(t, "Next: "+what, next(b+behind), nexts{f, len(b), ok})
	}
}

func TestP16_1_Types(t *testing.T) {
	is(t, "Method, Header, Body, Beat", [4]int{aframe.Method, aframe.Header, aframe.Body, aframe.Beat}, [4]int{1, 2, 3, 8})
}

func TestP16_1_ExamplesOfFrames(t *testing.T) {
	goes(t, "Beat", api.Frame{Type: 8}, raw("08 00 00 00 00 00 00 ce"))
	is(t, "GET /", next("GET /"), nexts{err: errProto})
}

func TestP16_1_FramesByteByByte(t *testing.T) {
	for _, c := range []struct {
		f api.Frame
		b string
	}{
		{api.Frame{Type: 1, Channel: 1, Payload: "abc"}, raw("01 00 01 00 00 00 03 61 62 63 ce")},
		{api.Frame{Type: 2, Channel: 0x0102, Payload: "\x00"}, raw("02 01 02 00 00 00 01 00 ce")},
		{api.Frame{Type: 3, Channel: 65535, Payload: "\xce\xce"}, raw("03 ff ff 00 00 00 02 ce ce ce")},
		{api.Frame{Type: 8, Channel: 256, Payload: "\x08"}, raw("08 01 00 00 00 00 01 08 ce")},
		{api.Frame{Type: 3, Channel: 0, Payload: strings.Repeat("x", 0x0102)}, raw("03 00 00 00 00 01 02") + strings.Repeat("x", 0x0102) + "\xce"},
		{api.Frame{Type: 1, Channel: 255, Payload: strings.Repeat("\xff", 16384)}, raw("01 00 ff 00 00 40 00") + strings.Repeat("\xff", 16384) + "\xce"},
	} {
		goes(t, fmt.Sprintf("%.100s", fmt.Sprintf("%#v", c.f)), c.f, c.b)
	}
}

func TestP16_1_EachTypeAndNoOther(t *testing.T) {
	ends := []int{math.MinInt, math.MinInt + 1, math.MinInt32, math.MaxInt32, math.MaxInt - 1, math.MaxInt}
	for _, kind := range types {
		goes(t, fmt.Sprint("type ", kind), api.Frame{Type: kind, Channel: 7, Payload: "hi"}, frame(kind, 7, "hi"))
		// What would be a type, if only its lowest bits were looked at.
		for _, by := range []int{1 << 8, 1 << 16, 1 << 32, 1 << 56, -1 << 8, -1 << 32, math.MinInt} {
			ends = append(ends, kind+by)
		}
		ends = append(ends, -kind)
	}
	for kind := -300; kind < 600; kind++ {
		if !slices.Contains(types, kind) {
			ends = append(ends, kind)
		}
	}
	for _, kind := range ends {
		for _, payload := range []string{"", "hi"} {
			is(t, fmt.Sprint("Encode: type ", kind), encode(api.Frame{Type: kind, Channel: 7, Payload: payload}), encodes{err: errArg})
		}
	}
}

func TestP16_1_EachFirstByte(t *testing.T) {
	for c := range 256 {
		good := frame(c, 7, "hi")
		if slices.Contains(types, c) {
			is(t, fmt.Sprint("first byte ", c), next(char(c)), nexts{err: errMore})
			is(t, fmt.Sprint("first byte ", c), next(good), nexts{api.Frame{Type: c, Channel: 7, Payload: "hi"}, len(good), ok})
			continue
		}
		for at := 1; at <= len(good); at++ {
			is(t, fmt.Sprint("first byte ", c), next(good[:at]), nexts{err: errProto})
		}
		is(t, fmt.Sprint("first byte ", c), next(good+frame(8, 0, "")), nexts{err: errProto})
	}
}

func TestP16_1_Channels(t *testing.T) {
	for channel := range 65536 {
		f := api.Frame{Type: 1, Channel: channel, Payload: "x"}
		b := frame(1, channel, "x")
		is(t, "Encode", encode(f), encodes{b, ok})
		is(t, "Next", next(b), nexts{f, len(b), ok})
	}
	for _, channel := range []int{-1, -2, -255, -256, -65535, -65536, 65536, 65537, 65792, 1 << 17, 1 << 24, math.MaxInt32, math.MinInt32, 1 << 32, 1<<32 + 1, math.MaxInt, math.MinInt, math.MinInt + 1} {
		for _, kind := range types {
			is(t, fmt.Sprint("Encode: channel ", channel), encode(api.Frame{Type: kind, Channel: channel}), encodes{err: errArg})
		}
	}
}

func TestP16_1_Payloads(t *testing.T) {
	for _, kind := range types {
		for _, size := range []int{0, 1, 2, 127, 128, 255, 256, 257, 4095, 4096, 16382, 16383, 16384} {
			payload := strings.Repeat("\xce", size)
			goes(t, fmt.Sprint("a payload of ", size), api.Frame{Type: kind, Channel: 1, Payload: payload}, frame(kind, 1, payload))
		}
		for _, size := range []int{16385, 16386, 16639, 16640, 32767, 32768, 65535, 65536, 65537, 1<<16 + 16384, 1 << 24} {
			is(t, fmt.Sprint("Encode: a payload of ", size), encode(api.Frame{Type: kind, Channel: 1, Payload: strings.Repeat("x", size)}), encodes{err: errArg})
		}
	}
	// All bytes are payload.
	all := ""
	for c := range 256 {
		all += char(c)
		goes(t, "a byte", api.Frame{Type: 3, Channel: 1, Payload: char(c)}, frame(3, 1, char(c)))
	}
	goes(t, "all bytes", api.Frame{Type: 3, Channel: 1, Payload: all}, frame(3, 1, all))
}

func TestP16_1_LengthsThatAreRead(t *testing.T) {
	long := strings.Repeat("\xce", maxFrame+2)
	for n := 0; n <= maxFrame; n++ {
		start := "\x03\x00\x01" + big(4, uint64(n))
		is(t, fmt.Sprint("a length of ", n), next(start+long[:n]), nexts{err: errMore})
		is(t, fmt.Sprint("a length of ", n), next(start+long[:n/2]), nexts{err: errMore})
		is(t, fmt.Sprint("a length of ", n), next(start+long[:n+1]), nexts{api.Frame{Type: 3, Channel: 1, Payload: long[:n]}, n + 8, ok})
	}
	for _, n := range []uint64{0, 1, maxFrame - 1, maxFrame} {
		is(t, fmt.Sprint("a length of ", n, ", and no byte"), next("\x01\xff\xff"+big(4, n)), nexts{err: errMore})
	}
	over := []uint64{16385, 16386, 16640, 32767, 65535, 65537, 1<<16 + 3, 1<<24 + 3, 1<<31 - 1, 1<<31 + 3, 1<<32 - 8, 1<<32 - 7, 1<<32 - 2, 1<<32 - 1}
	for bit := 15; bit < 32; bit++ {
		over = append(over, 1<<bit)
	}
	for _, n := range over {
		for _, kind := range types {
			for _, rest := range []string{"", "\xce", "abc\xce", long, strings.Repeat(long, 5)} {
				is(t, fmt.Sprint("a length of ", n), next(char(kind)+"\x00\x01"+big(4, n)+rest), nexts{err: errProto})
			}
		}
	}
	is(t, "a length of 16385, and all of it", next(frame(3, 1, long[:16385])), nexts{err: errProto})
	is(t, "the low byte first", next(raw("01 00 01 03 00 00 00 61 62 63 ce")), nexts{err: errProto})
}

func TestP16_1_EndsBehindEachByte(t *testing.T) {
	is(t, "nothing", next(""), nexts{err: errMore})
	for _, kind := range types {
		for _, payload := range []string{"", "\xce", "\x08", "hello", strings.Repeat("\xce", 300)} {
			b := frame(kind, 0x0102, payload)
			for at := range b {
				is(t, fmt.Sprint("cut at ", at), next(b[:at]), nexts{err: errMore})
			}
			is(t, "all of it", next(b).err, ok)
		}
	}
	// With fewer than seven bytes nothing but the first one is looked at.
	for at := 1; at < 7; at++ {
		for _, c := range []string{"\x00", "\xff", "\xce", "G"} {
			is(t, "few bytes", next("\x01"+strings.Repeat(c, at-1)), nexts{err: errMore})
			is(t, "few bytes", next("\x00"+strings.Repeat(c, at-1)), nexts{err: errProto})
		}
	}
	is(t, "seven bytes", next("\x01\xff\xff\xff\xff\xff\xff"), nexts{err: errProto})
}

func TestP16_1_LastBytes(t *testing.T) {
	for _, payload := range []string{"", "\xce", "hello\xce", strings.Repeat("\xce", maxFrame)} {
		b := frame(2, 3, payload)
		for c := range 256 {
			for _, behind := range []string{"", "\xce", b} {
				want := nexts{err: errProto}
				if c == 0xce {
					want = nexts{api.Frame{Type: 2, Channel: 3, Payload: payload}, len(b), ok}
				}
				is(t, fmt.Sprint("last byte ", c), next(b[:len(b)-1]+char(c)+behind), want)
			}
		}
	}
}

func TestP16_1_AnythingBehind(t *testing.T) {
	for _, payload := range []string{"", "abc"} {
		b := frame(1, 1, payload)
		want := nexts{api.Frame{Type: 1, Channel: 1, Payload: payload}, len(b), ok}
		for c := range 256 {
			is(t, "a byte behind", next(b+char(c)), want)
			is(t, "bytes behind", next(b+strings.Repeat(char(c), 70000)), want)
		}
	}
}

func TestP16_1_WhichErrorOfFrames(t *testing.T) {
	long := strings.Repeat("x", maxFrame+1)
	for _, f := range []api.Frame{{Type: 0, Channel: -1}, {Type: 4, Payload: long}, {Type: 1, Channel: 65536, Payload: long}, {Type: -1, Channel: -1, Payload: long}} {
		is(t, "Encode", encode(f), encodes{err: errArg})
	}
	for what, c := range map[string]struct {
		b   string
		err api.Errno
	}{
		"no type, fewer than seven":              {"\x04\x00\x00", errProto},
		"no type, too long":                      {"\x04\x00\x00\xff\xff\xff\xff", errProto},
		"no type, not all there":                 {"\x04\x00\x00\x00\x00\x00\x09abc", errProto},
		"a type, fewer than seven, too long":     {"\x01\x00\x00\xff\xff\xff", errMore},
		"too long, not all there":                {"\x01\x00\x00\x00\x00\x40\x01", errProto},
		"not all there, another last byte":       {"\x01\x00\x00\x00\x00\x00\x03abx", errMore},
		"not all there, with ce":                 {"\x01\x00\x00\x00\x00\x00\x03ab\xce", errMore},
		"another last byte, no type behind":      {"\x01\x00\x00\x00\x00\x00\x01aG", errProto},
		"another last byte, a good frame behind": {"\x01\x00\x00\x00\x00\x00\x01a" + frame(8, 0, ""), errProto},
	} {
		is(t, what, next(c.b), nexts{err: c.err})
	}
}

func TestP16_1_FramesOfAllKindsAsTheTwinReadsThem(t *testing.T) {
	t.Parallel()
	r := rand.New(rand.NewSource(161))
	count := make(map[api.Errno]int)
	for n := range 60000 {
		f := someFrame(r, one(r, 30, 300, maxFrame))
		b := frame(f.Type, f.Channel, f.Payload) + one(r, "", someText(r, 20))
		if n%3 > 0 {
			b = spoilt(r, b)
		}
		got := next(b)
		is(t, fmt.Sprintf("Next of %.300q", b), got, twinNext(b))
		count[got.err]++
	}
	if count[ok] < 10000 || count[errProto] < 8000 || count[errMore] < 8000 || len(count) != 3 {
		t.Errorf("how often what: %v", count)
	}
}

func TestP16_2_NextOfEncode(t *testing.T) {
	t.Parallel()
	r := rand.New(rand.NewSource(162))
	for range 10000 {
		f := someFrame(r, one(r, 30, 300, maxFrame))
		b := encode(f)
		is(t, "Encode", b, encodes{frame(f.Type, f.Channel, f.Payload), ok})
		is(t, "Next of Encode", next(b.b), nexts{f, len(b.b), ok})
		is(t, "Next of Encode, and more", next(b.b+someText(r, 300)), nexts{f, len(b.b), ok})
		for range 20 {
			is(t, "Next of a beginning", next(b.b[:r.Intn(len(b.b))]), nexts{err: errMore})
		}
		is(t, "Encode of Next", encode(next(b.b).f), b)
	}
}

func TestP16_2_AllBeginningsOfTheGreatestFrame(t *testing.T) {
	b := encode(api.Frame{Type: 3, Channel: 65535, Payload: strings.Repeat("\xce", maxFrame)}).b
	is(t, "its bytes", len(b), 16392)
	for at := range b {
		is(t, "Next of a beginning", next(b[:at]), nexts{err: errMore})
	}
}

func TestP1_BytesOfAllSizes(t *testing.T) {
	r := rand.New(rand.NewSource(163))
	for size := range 4000 {
		b := make([]byte, size/10)
		r.Read(b)
		for at := range min(len(b), r.Intn(16)) {
			b[at] = byte(one(r, types...))
			if r.Intn(2) == 0 {
				b[at] = 0
			}
		}
		is(t, "Next", next(string(b)), twinNext(string(b)))
		reading(t, "ReadHead", string(b), twinReadHead(string(b)))
	}
	huge := strings.Repeat("\x01", 1<<24)
	is(t, "Next of many bytes", next(huge), nexts{err: errProto})
	is(t, "Next of few of many bytes", next(frame(8, 0, "")+huge), nexts{api.Frame{Type: 8}, 8, ok})
	is(t, "Encode of many bytes", encode(api.Frame{Type: 1, Payload: huge}), encodes{err: errArg})
	reading(t, "ReadHead of many bytes", huge, reads{err: errForm})
	reading(t, "ReadHead of many bytes behind", header(5, 12288)+raw("00 00 00 00")+huge, reads{err: errForm})
	is(t, "Head of many properties", head(5, make([]api.Prop, 1<<20), true), encodes{err: errMsg})
}
