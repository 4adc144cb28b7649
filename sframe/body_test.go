package sframe_test

import (
	"fmt"
	"strings"
	"testing"

	"trivet/api"
)

func TestP18_1_BodiesWithoutALength(t *testing.T) {
	for _, command := range []string{"SEND", "CONNECT"} {
		head := command + "\na:b\n\n"
		for _, size := range []int{0, 1, 2, 255, 256, 1022, 1023, 1024} {
			for _, c := range []string{"x", "\n", "\r", "\xff", "\\", ":"} {
				body := strings.Repeat(c, size)
				goes(t, fmt.Sprint("a body of ", size), head+body+"\x00", frame(command, body, "a", "b"))
			}
		}
		for _, size := range []int{1025, 1026, 1279, 1280, 2048, 16000, 16384, 70000} {
			body := strings.Repeat("x", size)
			refused(t, fmt.Sprint("a body of ", size), frame(command, body, "a", "b"))
			isnt(t, fmt.Sprint("a body of ", size), head+body+"\x00")
			isnt(t, fmt.Sprint("a body of ", size, ", no end"), head+body)
		}
		for at := range 1027 {
			ahead := strings.Repeat("x", at)
			f := frame(command, ahead, "a", "b")
			if at <= 1024 {
				answers(t, fmt.Sprint("the end at ", at), head+ahead+"\x00\x00", nexts{f, len(head) + at + 1, ok})
				answers(t, fmt.Sprint("no end yet, ", at), head+ahead, nexts{err: errMore})
			} else {
				answers(t, fmt.Sprint("the end at ", at), head+ahead+"\x00", nexts{err: errProto})
				answers(t, fmt.Sprint("no end yet, ", at), head+ahead, nexts{err: errProto})
			}
		}
		// The body ends ahead of the first byte 00.
		reads(t, "several bytes 00", head+"\x00", frame(command, "", "a", "b"))
		answers(t, "several bytes 00", head+"x\x00y\x00", nexts{frame(command, "x", "a", "b"), len(head) + 2, ok})
		for _, body := range []string{"\x00", "x\x00", "\x00x", "x\x00x\x00", strings.Repeat("x", 1023) + "\x00", strings.Repeat("\x00", 1024)} {
			refused(t, "a byte 00, and no length", frame(command, body, "a", "b"))
			refused(t, "a byte 00, and another header", frame(command, body, "content-lengthy", fmt.Sprint(len(body))))
		}
	}
}

func TestP18_1_EachByteInABody(t *testing.T) {
	all := ""
	for c := range 256 {
		all += char(c)
		body := "a" + char(c) + "b"
		if c != 0 {
			goes(t, "a body", "SEND\n\n"+body+"\x00", frame("SEND", body))
		}
		goes(t, "a body with its length", "SEND\ncontent-length:3\n\n"+body+"\x00", frame("SEND", body, "content-length", "3"))
	}
	goes(t, "all bytes", "SEND\ncontent-length:256\n\n"+all+"\x00", frame("SEND", all, "content-length", "256"))
	goes(t, "all bytes but one", "SEND\n\n"+all[1:]+"\x00", frame("SEND", all[1:]))
}

func TestP18_1_BodiesWithTheirLength(t *testing.T) {
	for _, command := range []string{"SEND", "CONNECT", "CONNECTED"} {
		for size := range 1025 {
			length := fmt.Sprint(size)
			head := command + "\na:b\ncontent-length:" + length + "\nc:d\n\n"
			for _, c := range []string{"x", "\x00", "\n"} {
				body := strings.Repeat(c, size)
				f := frame(command, body, "a", "b", "content-length", length, "c", "d")
				is(t, "Encode", encode(f), encodes{head + body + "\x00", ok})
				want := nexts{f, len(head) + size + 1, ok}
				answers(t, "with its length", head+body+"\x00", want)
				answers(t, "with its length", head+body+"\x00\x00", want)
				answers(t, "with its length, its end is missing", head+body, nexts{err: errMore})
				answers(t, "with its length, another end", head+body+"\n\x00", nexts{err: errProto})
				answers(t, "with its length, another end", head+body+"x", nexts{err: errProto})
				if size > 0 {
					answers(t, "with its length, a byte is missing", head+body[1:], nexts{err: errMore})
				}
			}
		}
		for _, size := range []int{1025, 1026, 2048} {
			length := fmt.Sprint(size)
			for _, c := range []string{"x", "\x00"} {
				body := strings.Repeat(c, size)
				refused(t, "a body that is too long, with its length", frame(command, body, "content-length", length))
				isnt(t, "a body that is too long, with its length", command+"\ncontent-length:"+length+"\n\n"+body+"\x00")
			}
		}
	}
	goes(t, "a body of 1024", "SEND\ncontent-length:1024\n\n"+strings.Repeat("\x00", 1024)+"\x00", frame("SEND", strings.Repeat("\x00", 1024), "content-length", "1024"))
	goes(t, "no body", "SEND\ncontent-length:0\n\n\x00", frame("SEND", "", "content-length", "0"))
}

func TestP18_1_LastBytes(t *testing.T) {
	for _, body := range []string{"", "x", "a\x00b", "\x00", strings.Repeat("\x00", 1024)} {
		f := frame("SEND", body, "content-length", fmt.Sprint(len(body)))
		s := encode(f).b
		for c := range 256 {
			for _, behind := range []string{"", "\x00", s} {
				want := nexts{err: errProto}
				if c == 0 {
					want = nexts{f, len(s), ok}
				}
				answers(t, fmt.Sprint("last byte ", c), s[:len(s)-1]+char(c)+behind, want)
			}
		}
	}
}

// badLengths: what can't be the text of the header content-length.
var badLengths = []string{
	"", " ", "00", "000", "01", "02", "010", "0000000002", "1025", "1026", "1100", "2000", "9999", "10000", "10240", "65536", "65538",
	"+0", "-0", "+2", "-1", "-2", "--2", "2-", "2+", " 2", "2 ", "2\t", "\t2", "2.0", "2.", ".2", "2e0", "0x2", "0b10", "0o2", "1_0", "2,0", "2a", "a", "x2", "two", "\x00", "2\x00", "\x002",
	"9223372036854775807", "9223372036854775808", "18446744073709551615", "18446744073709551616", "18446744073709551618", "4294967296", "4294967298", "-9223372036854775808", "-9223372036854775806",
	"340282366920938463463374607431768211458", "\xd9\xa2", "\xef\xbc\x92", "NaN", "nil", "(2)", "2\xff",
}

func TestP18_1_LengthsThatCantBe(t *testing.T) {
	long := append([]string{strings.Repeat("0", 5000), strings.Repeat("1", 5000), strings.Repeat("0", 5000) + "2", strings.Repeat("9", 12000)}, badLengths...)
	for _, command := range []string{"SEND", "CONNECT"} {
		for _, length := range long {
			for _, end := range []string{"\n", "\r\n"} {
				head := command + end + "content-length:" + length + end + end
				// Whatever body there is: that it can't be is told at once.
				isnt(t, "a length that can't be", head)
				for _, body := range []string{"", "hi", "\x00\x00", strings.Repeat("x", 10), strings.Repeat("x", 1024)} {
					isnt(t, "a length that can't be", head+body+"\x00")
				}
			}
			for _, size := range []int{0, 1, 2, 10, 1024} {
				refused(t, "a length that can't be", frame(command, strings.Repeat("x", size), "content-length", length))
				refused(t, "a length that can't be", frame(command, strings.Repeat("\x00", size), "content-length", length))
			}
		}
	}
	// With a line's end that isn't one.
	isnt(t, "a length and 0d", "SEND\ncontent-length:2\r\r\n\nhi\x00")
	isnt(t, "a length and 0d, written", "SEND\ncontent-length:2\\r\n\nhi\x00")
	isnt(t, "a length and 0a, written", "SEND\ncontent-length:2\\n\n\nhi\x00")
	isnt(t, "a colon ahead of a length", "SEND\ncontent-length::2\n\nhi\x00")
}

func TestP18_1_EachLength(t *testing.T) {
	for size := range 20000 {
		s := fmt.Sprintf("SEND\ncontent-length:%d\n\n", size)
		f := frame("SEND", "hi", "content-length", fmt.Sprint(size))
		want, back := nexts{err: errMore}, encodes{err: errArg}
		switch {
		case size < 2:
			want.err = errProto
		case size == 2:
			want, back = nexts{f, len(s) + 3, ok}, encodes{s + "hi\x00", ok}
		case size > 1024:
			want.err = errProto
		}
		answers(t, fmt.Sprint("a length of ", size), s+"hi\x00", want)
		is(t, fmt.Sprint("a length of ", size), encode(f), back)
	}
}

func TestP18_1_SeveralLengths(t *testing.T) {
	// The first one counts, whatever the others say.
	for _, other := range append([]string{"0", "1", "3", "1024"}, badLengths...) {
		f := frame("SEND", "hi", "content-length", "2", "content-length", other)
		goes(t, "the first of two", "SEND\ncontent-length:2\ncontent-length:"+other+"\n\nhi\x00", f)
		f = frame("SEND", "\x00\x00", "a", "b", "content-length", "2", "c", "d", "content-length", other, "content-length", "7")
		goes(t, "the first of three", "SEND\na:b\ncontent-length:2\nc:d\ncontent-length:"+other+"\ncontent-length:7\n\n\x00\x00\x00", f)
		turned := frame("SEND", "hi", "content-length", other, "content-length", "2")
		refused(t, "the second of two", turned)
		s := "SEND\ncontent-length:" + other + "\ncontent-length:2\n\n"
		switch other {
		case "3", "1024":
			answers(t, "the second of two", s+"hi\x00", nexts{err: errMore})
		default:
			isnt(t, "the second of two", s+"hi\x00")
		}
	}
	reads(t, "another length behind", "SEND\ncontent-length:3\ncontent-length:1\n\na\x00b\x00", frame("SEND", "a\x00b", "content-length", "3", "content-length", "1"))
}

func TestP18_1_NamesThatArentContentLength(t *testing.T) {
	for _, name := range []string{"Content-Length", "content-Length", "CONTENT-LENGTH", "content-length ", " content-length", "content length", "contentlength", "content-lengt", "ontent-length", "content-length\x00", "x-content-length", "content-lengths", "content_length"} {
		f := frame("SEND", "hi", name, "1")
		goes(t, "a name that isn't content-length", "SEND\n"+name+":1\n\nhi\x00", f)
		refused(t, "a name that isn't content-length", frame("SEND", "\x00", name, "1"))
	}
	goes(t, "content-length in a text", "SEND\na:content-length\nb:content-length\\c1\n\nhi\x00", frame("SEND", "hi", "a", "content-length", "b", "content-length:1"))
	goes(t, "content-length with a colon, written", "SEND\ncontent-length\\c1:x\n\nhi\x00", frame("SEND", "hi", "content-length:1", "x"))
}

func TestP18_1_LengthsThatArentTheBodys(t *testing.T) {
	for _, size := range []int{0, 1, 9, 10, 11, 99, 100, 101, 999, 1000, 1023, 1024} {
		for other := range 1030 {
			for _, c := range []string{"x", "\x00"} {
				f := frame("SEND", strings.Repeat(c, size), "content-length", fmt.Sprint(other))
				is(t, fmt.Sprintf("Encode, a length of %d for %d", other, size), encode(f).err == ok, other == size)
			}
		}
	}
	for _, c := range []struct {
		s    string
		want nexts
	}{
		{"1\n\nhi\x00", nexts{err: errProto}},
		{"0\n\nhi\x00", nexts{err: errProto}},
		{"3\n\nhi\x00", nexts{err: errMore}},
		{"3\n\nhi\x00\x00", nexts{frame("SEND", "hi\x00", "content-length", "3"), 27, ok}},
		{"3\n\nhi\x00x", nexts{err: errProto}},
		{"1024\n\nhi\x00", nexts{err: errMore}},
		{"1\n\n\x00", nexts{err: errMore}},
		{"1\n\n\x00x", nexts{err: errProto}},
		{"0\n\n\x00", nexts{frame("SEND", "", "content-length", "0"), 24, ok}},
	} {
		answers(t, "another length", "SEND\ncontent-length:"+c.s, c.want)
	}
}

func TestP18_1_WhichErrorFirst(t *testing.T) {
	long := strings.Repeat("x", 16384)
	for what, c := range map[string]struct {
		s   string
		err api.Errno
	}{
		// Nothing is looked at till there is an empty line.
		"no command, no empty line":               {"send", errMore},
		"no command, one line":                    {"send\n", errMore},
		"no command, a line that isn't empty yet": {"send\n\r", errMore},
		"no command, an empty line":               {"send\n\n", errProto},
		"no command, an empty line of two":        {"send\n\r\n", errProto},
		"no header, no empty line":                {"SEND\nabc\n", errMore},
		"no name, no empty line":                  {"SEND\n:abc\n", errMore},
		"a bad backslash, no empty line":          {"SEND\na:\\t\n", errMore},
		"a bad length, no empty line":             {"SEND\ncontent-length:x\n", errMore},
		"33 headers, no empty line":               {"SEND\n" + strings.Repeat("a:b\n", 33), errMore},
		"a long command, no empty line":           {strings.Repeat("A", 16383), errMore},
		"a longer one":                            {strings.Repeat("A", 16384), errProto},
		// What is wrong with the head is told ahead of what is missing behind it.
		"no header, no body":         {"SEND\nabc\n\n", errProto},
		"no name, no body":           {"SEND\n:abc\n\n", errProto},
		"a bad backslash, no body":   {"SEND\na:\\t\n\n", errProto},
		"a bad length, no body":      {"SEND\ncontent-length:x\n\n", errProto},
		"33 headers, no body":        {"SEND\n" + strings.Repeat("a:b\n", 33) + "\n", errProto},
		"a length, no body":          {"SEND\ncontent-length:5\n\n", errMore},
		"a length, and no end":       {"SEND\ncontent-length:5\n\nabcde", errMore},
		"no length, and no end":      {"SEND\n\n" + long[:1024], errMore},
		"no length, and no end soon": {"SEND\n\n" + long[:1025], errProto},
		"no length, an end too late": {"SEND\n\n" + long[:1025] + "\x00", errProto},
	} {
		answers(t, what, c.s, nexts{err: c.err})
		blanks := "\n\r\n"
		if c.err == errMore {
			answers(t, what+", behind blanks", blanks+c.s, nexts{size: 3, err: errMore})
		} else {
			answers(t, what+", behind blanks", blanks+c.s, nexts{err: errProto})
		}
	}
	for what, f := range map[string]api.Sframe{
		"no frame":        {},
		"all that can't":  {Command: "x", Headers: make([]api.Header, 40), Body: long},
		"a great one":     {Command: "SEND", Headers: headers("a", long), Body: long},
		"no name, and 00": {Command: "SEND", Headers: headers("", ""), Body: "\x00"},
	} {
		refused(t, what, f)
	}
}
