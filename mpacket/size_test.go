package mpacket_test

import (
	"fmt"
	"slices"
	"strings"
	"testing"

	"trivet/api"
)

// All packets of each length that there can be.
func TestP20_2_EveryLength(t *testing.T) {
	for size := range maxFrame - 3 {
		p := api.Packet{Kind: unsubscribe, Flags: 2, Id: 1, Names: []string{a(size)}}
		s := packet(0xa2, "\x00\x01"+text(a(size)))
		if got := encode(p); got != (encodes{s, ok}) {
			t.Fatalf("a name of %d bytes: %.20q, %d", size, got.b, got.err)
		}
		answers(t, "a name", s+"x", nexts{p, len(s), ok})
		answers(t, "a name", s[:len(s)-1], nexts{err: errMore})
	}
}

// A packet takes at most MaxFrame bytes behind those that tell how many.
func TestP20_1_TheGreatestPackets(t *testing.T) {
	for by := -2; by <= 3; by++ {
		size := maxFrame + by
		for _, p := range []api.Packet{
			{Kind: connect, Name: a(size - 12)},
			{Kind: connect, Code: 4, Will: true, Name: a(7), Topic: a(size - 12 - 7 - 2 - 2 - 1000), Text: a(1000)},
			{Kind: publish, Topic: a(size - 2)},
			{Kind: publish, Topic: a(size - 2 - 1024), Text: a(1024)},
			{Kind: publish, Flags: 2, Id: 5, Topic: a(size - 4)},
			{Kind: subscribe, Flags: 2, Id: 5, Names: []string{a(size - 5)}, Codes: []int{0}},
			{Kind: subscribe, Flags: 2, Id: 5, Names: append(times(31, "b"), a(size-2-31*4-3)), Codes: times(32, 1)},
			{Kind: unsubscribe, Flags: 2, Id: 5, Names: []string{a(size - 4)}},
			{Kind: unsubscribe, Flags: 2, Id: 5, Names: append(times(31, "b"), a(size-2-31*3-2))},
		} {
			got := twinEncode(p)
			if by > 0 {
				refuses(t, fmt.Sprint(size, " bytes"), p)
				is(t, "the twin", got.err, errArg)
				continue
			}
			is(t, "the twin", got.err, ok)
			is(t, "how long", len(got.b), size+len(length(size))+1)
			goes(t, fmt.Sprint(size, " bytes"), got.b, p)
		}
	}
}

func TestP20_1_LongTexts(t *testing.T) {
	for _, size := range []int{65534, 65535, 65536, 65537, 65536 + 5, 1 << 17, 1 << 20} {
		long := a(size)
		refuses(t, "Name", api.Packet{Kind: connect, Name: long})
		refuses(t, "Topic", api.Packet{Kind: connect, Code: 4, Will: true, Topic: long})
		refuses(t, "Text", api.Packet{Kind: connect, Code: 4, Will: true, Text: long})
		refuses(t, "Topic", api.Packet{Kind: publish, Topic: long})
		refuses(t, "Text", api.Packet{Kind: publish, Text: long})
		refuses(t, "a name", api.Packet{Kind: subscribe, Flags: 2, Id: 1, Names: []string{long}, Codes: []int{0}})
		refuses(t, "a name", api.Packet{Kind: subscribe, Flags: 2, Id: 1, Names: []string{"b", long}, Codes: []int{0, 1}})
		refuses(t, "a name", api.Packet{Kind: unsubscribe, Flags: 2, Id: 1, Names: []string{long}})
	}
	// A text that begins in a packet doesn't end behind it.
	for _, own := range []string{"\xff\xff", "\xff\xff" + a(9000), "\x40\x00" + a(100)} {
		s := packet(0x30, own) + a(70000)
		answers(t, "a text past the end", s, nexts{err: errProto})
		s = packet(0xa2, "\x00\x01"+own) + a(70000)
		answers(t, "a text past the end", s, nexts{err: errProto})
	}
	for _, texts := range [][]string{{""}, {"", ""}, {"a", ""}, {"", "a"}} {
		own := "\x00\x01"
		for _, one := range texts {
			own += text(one)
		}
		goes(t, "texts of 0 bytes", packet(0xa2, own), api.Packet{Kind: unsubscribe, Flags: 2, Id: 1, Names: texts})
	}
}

// lengths is what bytes tell that may say how many follow: it is told, or more of them are missing, or it can't be.
func lengths(b string) (n int, err api.Errno) {
	for at, c := range []byte(b) {
		if at == 2 && c >= 128 {
			return 0, errProto
		}
		n += int(c%128) * []int{1, 128, 16384}[at]
		if c >= 128 {
			continue
		}
		if n > maxFrame || length(n) != b[:at+1] {
			return 0, errProto
		}
		return n, ok
	}
	return 0, errMore
}

// All of one, two and three bytes that may stand behind the first one.
func TestP20_1_EveryLengthThatBytesTell(t *testing.T) {
	t.Parallel()
	count := make(map[api.Errno]int)
	long := a(20000)
	check := func(b string) {
		n, err := lengths(b)
		count[err]++
		switch {
		case err != ok:
			answers(t, fmt.Sprintf("length %x", b), "\x30"+b, nexts{err: err})
		case n == 0:
			answers(t, "no topic", "\x30"+b, nexts{err: errProto})
		default:
			answers(t, fmt.Sprintf("length %x", b), "\x30"+b, nexts{err: errMore})
		}
		if err == ok && n > 1 && n <= 1026 {
			p := api.Packet{Kind: publish, Text: long[:n-2]}
			answers(t, fmt.Sprintf("length %x", b), "\x30"+b+"\x00\x00"+long[:n-2]+"more", nexts{p, 1 + len(b) + n, ok})
		}
		if err == errProto {
			answers(t, fmt.Sprintf("length %x", b), "\x30"+b+"\x00\x00"+long, nexts{err: errProto})
			answers(t, fmt.Sprintf("length %x", b), "\xc0"+b, nexts{err: errProto})
		}
	}
	for x := range 256 {
		check(char(x))
		if x < 128 {
			continue
		}
		for y := range 256 {
			check(char(x) + char(y))
			if y < 128 {
				continue
			}
			for _, z := range []int{0, 1, 2, 3, 64, 127, 128, 129, 255} {
				check(char(x) + char(y) + char(z))
			}
		}
	}
	// Just one of three bytes can be.
	if count[ok] != 128+127*128+1 {
		t.Errorf("how many: %v", count)
	}
}

// A length is told as soon as a byte tells it.
func TestP20_1_LengthsAsSoonAsAByteTells(t *testing.T) {
	told(t, "two bytes for one", "\x40\x82\x00\x00\x05", 3)
	told(t, "two bytes for none", "\xc0\x80\x00", 3)
	told(t, "three bytes for two", "\x40\x82\x80\x00\x00\x05", 4)
	told(t, "three bytes for two", "\x30\xff\xff\x00"+a(30), 4)
	told(t, "three bytes for none", "\xc0\x80\x80\x00", 4)
	told(t, "four bytes", "\x40\x82\x80\x80\x00\x00\x05", 4)
	told(t, "four bytes", "\xc0\x80\x80\x80\x00", 4)
	told(t, "four bytes", "\xc0\xff\xff\xff\x7f", 4)
	told(t, "above MaxFrame", "\x30\x81\x80\x01", 4)
	told(t, "above MaxFrame", "\x30\x80\x81\x01", 4)
	told(t, "above MaxFrame", "\x30\x80\x80\x02", 4)
	told(t, "above MaxFrame", "\x40\xff\xff\x7f", 4)
	for _, begun := range []string{"\x30", "\x30\x80", "\x30\xff", "\x30\x80\x80", "\x30\xff\xff", "\x30\x80\x80\x01", "\x30\xff\x7f", "\x30\x05", "\x30\x05\x00\x01ab"} {
		answers(t, "not all there", begun, nexts{err: errMore})
	}
}

// What can't be in a packet is told when all of it is there, and not ahead of that.
func TestP20_1_AllIsThereFirst(t *testing.T) {
	for _, s := range []string{
		packet(0x10, strings.Repeat("\xff", 100)),
		packet(0x20, "\xff\xff"),
		packet(0x30, "\xff\xff"+a(1000)),
		packet(0x32, "\x00\x01a\x00\x00"+a(300)),
		packet(0x40, a(200)),
		packet(0x82, "\x00\x00"+a(200)),
		packet(0x90, "\x00\x01\x03\x03\x03"),
		packet(0xc0, a(16384)),
	} {
		for _, at := range []int{1, 2, 3, 4, 5, len(s) / 2, len(s) - 1} {
			if at < len(s) {
				answers(t, "not all there", s[:at], nexts{err: errMore})
			}
		}
		answers(t, "all there", s, nexts{err: errProto})
		answers(t, "and more", s+a(20000), nexts{err: errProto})
	}
}

// Each of several texts would have room alone.
func TestP20_1_SizeOfAllTogether(t *testing.T) {
	half := a(maxFrame/2 + 10)
	refuses(t, "two texts", api.Packet{Kind: connect, Code: 4, Will: true, Name: half, Topic: half})
	refuses(t, "two names", api.Packet{Kind: unsubscribe, Flags: 2, Id: 1, Names: []string{half, half}})
	refuses(t, "two names", api.Packet{Kind: subscribe, Flags: 2, Id: 1, Names: []string{half, half}, Codes: []int{0, 0}})
	third := a(maxFrame / 3)
	p := api.Packet{Kind: unsubscribe, Flags: 2, Id: 1, Names: []string{third, third, third[9:]}}
	goes(t, "three names", packet(0xa2, "\x00\x01"+text(third)+text(third)+text(third[9:])), p)
	p.Names = slices.Repeat([]string{third}, 4)
	refuses(t, "four names", p)
}
