package sframe_test

import (
	"fmt"
	"slices"
	"strings"
	"testing"

	"trivet/api"
	"trivet/sframe"
)

func TestP18_1_Examples(t *testing.T) {
	goes(t, "SEND", "SEND\ndestination:/queue/a\n\nhi\x00", frame("SEND", "hi", "destination", "/queue/a"))
	reads(t, `x:a\cb`, "SEND\nx:a\\cb\n\n\x00", frame("SEND", "", "x", "a:b"))
	isnt(t, `x:a\b`, "SEND\nx:a\\b\n\n\x00")
}

func TestP18_1_FramesByteByByte(t *testing.T) {
	for _, c := range []struct {
		s string
		f api.Sframe
	}{
		{"A\n\n\x00", frame("A", "")},
		{"BEGIN\na:b\n\n\x00", frame("BEGIN", "", "a", "b")},
		{"ACK\na:\n\n \x00", frame("ACK", " ", "a", "")},
		{"SEND\na:b\na:c\nb:d\n\n\n\n\x00", frame("SEND", "\n\n", "a", "b", "a", "c", "b", "d")},
		{"SEND\ncontent-length:3\n\n\x00\x00\x00\x00", frame("SEND", "\x00\x00\x00", "content-length", "3")},
		{"SEND\na\\cb:c\\\\d\\r\\n\n\n:\\\r\x00", frame("SEND", ":\\\r", "a:b", "c\\d\r\n")},
		{"CONNECT\na\\cb:c\\d:e\n\n\x00", frame("CONNECT", "", "a\\cb", "c\\d:e")},
		{"CONNECTED\n\\:\\\n\n\x00", frame("CONNECTED", "", "\\", "\\")},
		{"MESSAGE\n \x00:\xff\xc3\xa9 \n\n\xff\x00", frame("MESSAGE", "\xff", " \x00", "\xff\xc3\xa9 ")},
		{"QRSTUVWXYZABCDEF\n\n\x00", frame("QRSTUVWXYZABCDEF", "")},
	} {
		goes(t, "a frame", c.s, c.f)
	}
}

func TestP18_1_Commands(t *testing.T) {
	for _, command := range commands {
		goes(t, command, command+"\na:b\n\nhi\x00", frame(command, "hi", "a", "b"))
		goes(t, command, command+"\n\n\x00", frame(command, ""))
	}
	for size := range 40 {
		command := strings.Repeat("Q", size)
		f := frame(command, "", "a", "b")
		switch {
		case size == 0:
			refused(t, "no command", f)
		case size <= 16:
			goes(t, fmt.Sprint("a command of ", size), command+"\na:b\n\n\x00", f)
		default:
			refused(t, fmt.Sprint("a command of ", size), f)
			isnt(t, fmt.Sprint("a command of ", size), command+"\na:b\n\n\x00")
			isnt(t, fmt.Sprint("a command of ", size), command+"\r\n\r\n\x00")
		}
	}
	for _, command := range []string{"a:b", ":", "content-length:0", "connect", "Send", "SEND ", " SEND", "S END", "SEND:", "SEND\t", "\xef\xbb\xbfSEND", "SEND\\n", "\\cSEND", "S\xc3\x89ND", strings.Repeat("A", 256+4), strings.Repeat("Z", 16000)} {
		refused(t, "a command that is none", frame(command, "", "a", "b"))
		isnt(t, "a command that is none", command+"\n\n\x00")
		isnt(t, "a command that is none", command+"\na:b\n\nhi\x00")
	}
}

func TestP18_1_EachByteInACommand(t *testing.T) {
	for c := range 256 {
		for _, command := range []string{char(c), "SE" + char(c), char(c) + "SE", "S" + char(c) + "E", "ABCDEFGHIJKLMNO" + char(c)} {
			f := frame(command, "hi")
			s := command + "\n\nhi\x00"
			switch {
			case 'A' <= c && c <= 'Z':
				goes(t, "a letter", s, f)
				continue
			case c == '\n':
				// It ends the line.
			case c == '\r' && command[len(command)-1] == '\r' && len(command) > 1:
				reads(t, "a line's end of two bytes", s, frame(command[:len(command)-1], "hi"))
			case c == '\r' && len(command) == 1:
				answers(t, "blanks alone, and no empty line", s, nexts{size: 3, err: errMore})
			default:
				isnt(t, "another byte", s)
			}
			refused(t, fmt.Sprint("byte ", c), f)
		}
	}
}

func TestP18_1_HowManyHeaders(t *testing.T) {
	for _, command := range []string{"SEND", "CONNECT"} {
		for count := range 70 {
			f := frame(command, "hi")
			s := command + "\n"
			for at := range count {
				f.Headers = append(f.Headers, api.Header{Name: fmt.Sprint("h", at/2), Text: fmt.Sprint(at)})
				s += fmt.Sprintf("h%d:%d\n", at/2, at)
			}
			s += "\nhi\x00"
			if count <= 32 {
				goes(t, fmt.Sprint(count, " headers"), s, f)
				reads(t, fmt.Sprint(count, " headers"), strings.ReplaceAll(s, "\n", "\r\n"), f)
				continue
			}
			refused(t, fmt.Sprint(count, " headers"), f)
			isnt(t, fmt.Sprint(count, " headers"), s)
			isnt(t, fmt.Sprint(count, " headers"), strings.ReplaceAll(s, "\n", "\r\n"))
		}
	}
	// As many as a frame has room for.
	isnt(t, "4000 headers", "SEND\n"+strings.Repeat("a:b\n", 4000)+"\n\x00")
	refused(t, "100000 headers", api.Sframe{Command: "SEND", Headers: make([]api.Header, 100000)})
}

func TestP18_1_EachByteInNamesAndTexts(t *testing.T) {
	marks := map[int]string{'\\': `\\`, '\r': `\r`, '\n': `\n`, ':': `\c`}
	for c := range 256 {
		mark, is := marks[c]
		if !is {
			mark = char(c)
		}
		for _, command := range commands {
			for _, around := range [][2]string{{"", ""}, {"a", ""}, {"", "b"}, {"a", "b"}} {
				ahead, behind := around[0], around[1]
				inName, inText := frame(command, "hi", ahead+char(c)+behind, "x"), frame(command, "hi", "x", ahead+char(c)+behind)
				if !isBare(command) {
					goes(t, "in a name", command+"\n"+ahead+mark+behind+":x\n\nhi\x00", inName)
					goes(t, "in a text", command+"\nx:"+ahead+mark+behind+"\n\nhi\x00", inText)
					continue
				}
				if c == '\r' || c == '\n' {
					refused(t, "in a name that stands as it is", inName)
					refused(t, "in a text that stands as it is", inText)
					continue
				}
				goes(t, "in a text that stands as it is", command+"\nx:"+ahead+char(c)+behind+"\n\nhi\x00", inText)
				if c == ':' {
					refused(t, "in a name that stands as it is", inName)
				} else {
					goes(t, "in a name that stands as it is", command+"\n"+ahead+char(c)+behind+":x\n\nhi\x00", inName)
				}
			}
		}
	}
}

func TestP18_1_EachByteBehindABackslash(t *testing.T) {
	marks := map[int]string{'\\': "\\", 'r': "\r", 'n': "\n", 'c': ":"}
	for _, command := range commands {
		for c := range 256 {
			mark, is := marks[c]
			name, text := command+"\na\\"+char(c)+"b:x\n\nhi\x00", command+"\nx:a\\"+char(c)+"b\n\nhi\x00"
			switch {
			case c == '\n':
				// It ends the line: no colon in what is ahead, or nothing behind the backslash.
				isnt(t, "a line that ends in a name", name)
				isnt(t, "a line that ends in a text", text)
			case isBare(command) && c == ':':
				reads(t, "as it stands", name, frame(command, "hi", "a\\", "b:x"))
				reads(t, "as it stands", text, frame(command, "hi", "x", "a\\:b"))
			case isBare(command):
				reads(t, "as it stands", name, frame(command, "hi", "a\\"+char(c)+"b", "x"))
				reads(t, "as it stands", text, frame(command, "hi", "x", "a\\"+char(c)+"b"))
			case is:
				reads(t, "by a backslash", name, frame(command, "hi", "a"+mark+"b", "x"))
				reads(t, "by a backslash", text, frame(command, "hi", "x", "a"+mark+"b"))
			default:
				isnt(t, "by a backslash, in a name", name)
				isnt(t, "by a backslash, in a text", text)
			}
		}
	}
}

func TestP18_1_ABackslashAheadOfNothing(t *testing.T) {
	for _, command := range commands {
		for _, end := range []string{"\n", "\r\n"} {
			for _, c := range []struct {
				line       string
				name, text string
			}{
				{`\:x`, `\`, "x"}, {`a\:x`, `a\`, "x"}, {`a\\\:x`, `a\\\`, "x"}, {`\:`, `\`, ""},
				{`a:\`, "a", `\`}, {`a:x\`, "a", `x\`}, {`a:\\\`, "a", `\\\`}, {`a\:\`, `a\`, `\`},
			} {
				s := command + end + c.line + end + end + "hi\x00"
				if isBare(command) {
					reads(t, "as it stands", s, frame(command, "hi", c.name, c.text))
				} else {
					isnt(t, "a backslash ahead of nothing", s)
				}
			}
		}
	}
	reads(t, "two of them", "SEND\n\\\\:\\\\\n\n\x00", frame("SEND", "", `\`, `\`))
	reads(t, "four of them", "SEND\n\\\\\\\\:\\\\\\\\\n\n\x00", frame("SEND", "", `\\`, `\\`))
	reads(t, "two, and a letter", "SEND\n\\\\c:\\\\n\n\n\x00", frame("SEND", "", `\c`, `\n`))
	reads(t, "three, and a letter", "SEND\n\\\\\\c:\\\\\\n\n\n\x00", frame("SEND", "", `\:`, "\\\n"))
	isnt(t, "a backslash ahead of a 0d that is no end", "SEND\na:\\\r\r\n\n\x00")
	for _, great := range []string{"R", "N", "C"} {
		isnt(t, "a great letter", "SEND\na:\\"+great+"\n\n\x00")
	}
}

func TestP18_1_NamesAndColons(t *testing.T) {
	for _, command := range commands {
		for _, end := range []string{"\n", "\r\n"} {
			for what, line := range map[string]string{"no name": ":x", "nothing but a colon": ":", "two colons": "::", "no colon": "abc", "no colon, but one written": "a\\cb", "a blank alone": " ", "a byte 00": "\x00", "a backslash": "\\"} {
				isnt(t, what, command+end+line+end+end+"hi\x00")
				isnt(t, what+", at last", command+end+"a:b"+end+line+end+end+"hi\x00")
				isnt(t, what+", at first", command+end+line+end+"a:b"+end+end+"hi\x00")
			}
			for line, f := range map[string]api.Sframe{
				"a:":         frame(command, "hi", "a", ""),
				"a::":        frame(command, "hi", "a", ":"),
				"a:b:c":      frame(command, "hi", "a", "b:c"),
				"a::b::c::":  frame(command, "hi", "a", ":b::c::"),
				" a : b ":    frame(command, "hi", " a ", " b "),
				" : ":        frame(command, "hi", " ", " "),
				"\x00:\x00":  frame(command, "hi", "\x00", "\x00"),
				"SEND:SEND ": frame(command, "hi", "SEND", "SEND "),
			} {
				reads(t, "colons", command+end+line+end+end+"hi\x00", f)
			}
		}
		refused(t, "no name", frame(command, "hi", "", "x"))
		refused(t, "no name, no text", frame(command, "hi", "", ""))
		refused(t, "no name, at last", frame(command, "hi", "a", "b", "", "x"))
		refused(t, "no name, at first", frame(command, "hi", "", "x", "a", "b"))
		goes(t, "no text", command+"\na:\nb:\n\nhi\x00", frame(command, "hi", "a", "", "b", ""))
	}
}

func TestP18_1_EndsOfLines(t *testing.T) {
	want := frame("SEND", "h\r\n\ni", "a", "b", "c", "d")
	ends := []string{"\n", "\r\n"}
	for _, first := range ends {
		for _, second := range ends {
			for _, third := range ends {
				for _, fourth := range ends {
					reads(t, "ends of both kinds", "SEND"+first+"a:b"+second+"c:d"+third+fourth+"h\r\n\ni\x00", want)
				}
			}
		}
	}
	isnt(t, "0d 0d 0a behind the command", "SEND\r\r\n\n\x00")
	reads(t, "0d 0d 0a behind a text", "SEND\na:b\r\r\n\n\x00", frame("SEND", "", "a", "b\r"))
	reads(t, "0d 0d 0d 0a behind a text", "SEND\na:b\r\r\r\n\n\x00", frame("SEND", "", "a", "b\r\r"))
	reads(t, "0d 0d 0a alone in a text", "SEND\na:\r\r\n\n\x00", frame("SEND", "", "a", "\r"))
	reads(t, "0d 0d 0a behind a text of CONNECT", "CONNECT\na:b\r\r\n\n\x00", frame("CONNECT", "", "a", "b\r"))
	isnt(t, "0d 0d 0a as an empty line", "SEND\n\r\r\n\n\x00")
	isnt(t, "0d 0d 0a as an empty line, behind a header", "SEND\na:b\n\r\r\n\n\x00")
	isnt(t, "0d alone as an end", "SEND\ra:b\n\n\x00")
	answers(t, "0d alone as ends", "SEND\ra:b\r\rhi\x00", nexts{err: errMore})
	answers(t, "0a 0d in turns", "SEND\n\ra:b\n\r", nexts{err: errMore})
	isnt(t, "0a 0d in turns, with something behind", "SEND\n\ra\n\r\n\x00")
	reads(t, "0d in a name", "SEND\n\ra\r:b\n\n\x00", frame("SEND", "", "\ra\r", "b"))
	reads(t, "0d alone as a name", "SEND\n\r:b\n\n\x00", frame("SEND", "", "\r", "b"))
	reads(t, "0d in a text", "SEND\na:\rb\rc\n\n\x00", frame("SEND", "", "a", "\rb\rc"))
	reads(t, "0d in a name and a text of CONNECT", "CONNECT\na\r:\rb\n\n\x00", frame("CONNECT", "", "a\r", "\rb"))
	reads(t, "what ends lines, in a body", "SEND\n\n\r\n\n\r\x00", frame("SEND", "\r\n\n\r"))
	isnt(t, "a header alone", "a:b\n\n\x00")
	isnt(t, "0d ahead of the command", "\rSEND\n\n\x00")
	isnt(t, "0d ahead of the command, behind a blank", "\n\rSEND\n\n\x00")
	isnt(t, "0d 0d 0a ahead of the command", "\r\r\nSEND\n\n\x00")
	isnt(t, "a line of 00 ahead of the command", "\x00\nSEND\n\n\x00")
}

func TestP18_1_Blanks(t *testing.T) {
	for s, want := range map[string]int{
		"": 0, "\n": 1, "\r": 0, "\r\n": 2, "\n\r": 1, "\n\n": 2, "\r\r\n": 0, "\n\r\r\n": 1, "\r\n\r": 2, "\r\n\n\r\n": 5, "\n\r\n\n": 4,
		"a": 0, "a\n": 0, "\na\n": 1, "\r\na\r\n\r\n": 2, " \n": 0, "\n \n": 1, "\x00\n": 0, "\n\x00\n": 1, "\ra\n": 0, "\n\ra\n": 1, "\t\n": 0, "\v\n": 0,
		"\r\n\r\n\r\r\n": 4, "SEND\n\n\x00": 0, "\n\n\nSEND\n\n\x00": 3,
	} {
		is(t, fmt.Sprintf("Blanks of %q", s), sframe.Blanks(s), want)
	}
	for c := range 256 {
		want := 3
		if c == '\n' {
			want = 4
		}
		is(t, fmt.Sprint("Blanks ahead of byte ", c), sframe.Blanks("\n\r\n"+char(c)), want)
		is(t, fmt.Sprint("Blanks ahead of byte ", c), sframe.Blanks("\n\r\n"+char(c)+"x\n"), want)
	}
	long := strings.Repeat("\r\n\n", 100000)
	is(t, "Blanks of many", sframe.Blanks(long), 300000)
	is(t, "Blanks of many, and more", sframe.Blanks(long+"\r"+long), 300000)
}

func TestP18_1_AllBlanksOfFewBytes(t *testing.T) {
	// All texts of at most 9 bytes out of three.
	all := []string{""}
	for at := 0; len(all[at]) < 9; at++ {
		all = append(all, all[at]+"\n", all[at]+"\r", all[at]+"x")
	}
	is(t, "how many", len(all), 29524)
	for _, s := range all {
		is(t, fmt.Sprintf("Blanks of %q", s), sframe.Blanks(s), len(twinBlanks.FindString(s)))
		answers(t, "few bytes", s, twinNext(s))
	}
}

func TestP18_1_Get(t *testing.T) {
	f := frame("SEND", "hi", "a", "1", "b", "2", "a", "3", "c", "", "c", "4", "A", "5", "a:b", "6", "d ", "7")
	was := slices.Clone(f.Headers)
	for name, want := range map[string]gets{
		"a": {"1", true}, "b": {"2", true}, "c": {"", true}, "A": {"5", true}, "a:b": {"6", true}, "d ": {"7", true},
		"": {}, "d": {}, "B": {}, "ab": {}, "a\\cb": {}, "SEND": {}, "hi": {}, "a\x00": {}, "1": {}, " a": {},
	} {
		is(t, fmt.Sprintf("Get of %q", name), get(f, name), want)
		is(t, "Get, no headers", get(frame("SEND", "hi"), name), gets{})
		is(t, "Get, no frame", get(api.Sframe{}, name), gets{})
		is(t, "Get, no headers", get(api.Sframe{Headers: []api.Header{}}, name), gets{})
		// The name alone counts, not the command, nor whether the frame can be.
		is(t, "Get, no command", get(api.Sframe{Headers: f.Headers}, name), want)
		is(t, "Get of CONNECT", get(api.Sframe{Command: "CONNECT", Headers: f.Headers}, name), want)
	}
	is(t, "Get of no name", get(frame("x", "", "a", "1", "", "2", "", "3"), ""), gets{"2", true})
	var many []api.Header
	for at := range 1000 {
		many = append(many, api.Header{Name: fmt.Sprint(at % 700), Text: fmt.Sprint(at)})
	}
	for at := range 700 {
		is(t, "Get of many", get(api.Sframe{Headers: many}, fmt.Sprint(at)), gets{fmt.Sprint(at), true})
	}
	is(t, "Get of many", get(api.Sframe{Headers: many}, "700"), gets{})
	if !slices.Equal(f.Headers, was) {
		t.Error("Get changed what it was handed")
	}
}
