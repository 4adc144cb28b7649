package sframe_test

import (
	"fmt"
	"math/rand"
	"slices"
	"strings"
	"testing"

	"trivet/api"
	"trivet/sframe"
)

// sized: a frame of this command, with a header h of so many bytes in all that the frame has just so many; and its bytes.
func sized(command, body string, size int) (api.Sframe, string) {
	ahead, behind := command+"\nh:", "\n\n"+body+"\x00"
	text := strings.Repeat("t", size-len(ahead)-len(behind))
	return frame(command, body, "h", text), ahead + text + behind
}

func TestP18_1_FramesOfAboutMaxFrame(t *testing.T) {
	for _, command := range []string{"SEND", "CONNECT", "A"} {
		for _, body := range []string{"", "x", "hello", strings.Repeat("x", 1023), strings.Repeat("x", 1024)} {
			for size := 16375; size <= 16395; size++ {
				f, s := sized(command, body, size)
				is(t, "its bytes", len(s), size)
				what := fmt.Sprint("a frame of ", size)
				if size > 16384 {
					refused(t, what, f)
					isnt(t, what, s)
					continue
				}
				is(t, "Encode, "+what, encode(f), encodes{s, ok})
				for _, behind := range behinds {
					answers(t, what, s+behind, nexts{f, size, ok})
				}
				for at := size - 1100; at < size; at++ {
					answers(t, what+", cut", s[:at], nexts{err: errMore})
				}
			}
		}
	}
}

// What lies in the last of the bytes that are looked at, byte by byte.
func TestP18_1_WhatPassesMaxFrame(t *testing.T) {
	for over := -8; over <= 8; over++ {
		pad := strings.Repeat("t", 16384+over)
		for what, end := range map[string]string{
			"an empty line":         "\n\n\x00",
			"an empty line of two":  "\n\r\n\x00",
			"lines of two":          "\r\n\r\n\x00",
			"a body":                "\n\nhi\x00",
			"a body of three":       "\n\nhi!\x00",
			"no end":                "\n\nhi",
			"a header that is none": "\nx\n\n\x00",
			"another line":          "\nx:\n\n\x00",
			"noughts":               "\x00\x00\x00\x00\n\n\x00",
			"returns":               "\r\r\r\n\n\x00",
		} {
			s := "SEND\nh:" + pad[:len(pad)-8] + end
			want := twinNext(s)
			answers(t, what, s, want)
			answers(t, what+", and more", s+"more\n\n\x00", twinNext(s+"more\n\n\x00"))
			if len(s) > 16384 && want.err == errMore || len(s) <= 16384 && want.err == ok && want.size != len(s) {
				t.Errorf("%s, %d bytes: %d", what, len(s), want.err)
			}
			s = "SEND\ncontent-length:2\nh:" + pad[:len(pad)-26] + end
			answers(t, what+", with a length", s, twinNext(s))
			answers(t, what+", with a length, and more", s+"more\n\n\x00", twinNext(s+"more\n\n\x00"))
		}
	}
	// The body that is due would pass the end.
	for _, size := range []int{0, 1, 500, 1024} {
		head := fmt.Sprintf("SEND\ncontent-length:%d\nh:", size)
		for _, left := range []int{0, 1, 2, 499, 500, 501, 502, 1023, 1024, 1025, 1026, 1027} {
			s := head + strings.Repeat("t", 16384-left-len(head)-2) + "\n\n"
			f := frame("SEND", strings.Repeat("x", size), "content-length", fmt.Sprint(size), "h", strings.Repeat("t", 16384-left-len(head)-2))
			is(t, "what is left", 16384-len(s), left)
			what := fmt.Sprintf("a body of %d, %d left", size, left)
			full := s + f.Body + "\x00"
			if size < left {
				answers(t, what, full, nexts{f, len(full), ok})
				answers(t, what, full[:len(full)-1], nexts{err: errMore})
				is(t, "Encode, "+what, encode(f), encodes{full, ok})
			} else {
				isnt(t, what, full)
				refused(t, what, f)
				// It is told when there are 16384, not ahead of that.
				answers(t, what, full[:16383], nexts{err: errMore})
				answers(t, what, full[:16384], nexts{err: errProto})
			}
		}
	}
	// And without a length: the byte 00 would pass the end.
	for left := range 1030 {
		s := "SEND\nh:" + strings.Repeat("t", 16384-left-9) + "\n\n"
		is(t, "what is left", 16384-len(s), left)
		body := strings.Repeat("x", min(left, 1025))
		answers(t, "no 00 among what is left", s+body+"\x00", nexts{err: errProto})
		if left > 0 && left <= 1025 {
			body := body[:left-1]
			answers(t, "00 as the last", s+body+"\x00", nexts{frame("SEND", body, "h", strings.Repeat("t", 16384-left-9)), 16384, ok})
			answers(t, "00 is missing", s+body, nexts{err: errMore})
		}
	}
}

func TestP18_1_NoEmptyLineAmongMaxFrame(t *testing.T) {
	for what, unit := range map[string]string{"letters": "A", "colons": ":", "noughts": "\x00", "lines": "a:b\n", "lines of two": "a:b\r\n", "returns": "\r", "returns and letters": "\rA", "backslashes": "\\", "short lines": "x\n", "0a and 0d": "x\n\r\r"} {
		s := strings.Repeat(unit, 20000/len(unit)+1)
		for _, blanks := range []string{"", "\n", "\r\n", "\n\r\n\n", strings.Repeat("\n", 16384), strings.Repeat("\r\n", 16383)} {
			for _, size := range []int{1, 2, 3, 100, 16000, 16382, 16383} {
				answers(t, what, blanks+s[:size], nexts{size: len(blanks), err: errMore})
			}
			for _, size := range []int{16384, 16385, 20000} {
				answers(t, what, blanks+s[:size], nexts{err: errProto})
				answers(t, what+", and an empty line", blanks+s[:size]+"\n\n\x00", nexts{err: errProto})
				answers(t, what+", and a frame", blanks+s[:size]+"\n\nSEND\n\n\x00", nexts{err: errProto})
			}
		}
	}
}

func TestP18_1_WhatIsPassedOver(t *testing.T) {
	f := frame("SEND", "hi", "a", "b")
	s := encode(f).b
	for _, blanks := range []string{"\n", "\r\n", "\n\n", "\n\r\n", "\r\n\n", "\r\n\r\n", "\n\n\n\r\n\n", strings.Repeat("\n", 300), strings.Repeat("\r\n", 16384), strings.Repeat("\n", 100000)} {
		for _, behind := range behinds {
			answers(t, "behind blanks", blanks+s+behind, nexts{f, len(blanks) + len(s), ok})
		}
		for at := range s {
			answers(t, "behind blanks, cut", blanks+s[:at], nexts{size: len(blanks), err: errMore})
		}
		answers(t, "blanks and 0d", blanks+"\r", nexts{size: len(blanks), err: errMore})
		isnt(t, "behind blanks", blanks+"send\n\n\x00")
		isnt(t, "behind blanks", blanks+"\r\r\nSEND\n\n\x00")
		isnt(t, "behind blanks", blanks+" \n\n")
		isnt(t, "behind blanks", blanks+"SEND\n\n"+strings.Repeat("x", 1025))
		// What was passed over doesn't count among the bytes of the frame.
		for _, size := range []int{16383, 16384} {
			great, bytes := sized("SEND", "hello", size)
			answers(t, "behind blanks, a great one", blanks+bytes, nexts{great, len(blanks) + size, ok})
			answers(t, "behind blanks, a great one, cut", blanks+bytes[:size-1], nexts{size: len(blanks), err: errMore})
		}
		_, bytes := sized("SEND", "hello", 16385)
		answers(t, "behind blanks, too great a one", blanks+bytes, nexts{err: errProto})
	}
	for at := range 20 {
		blanks := strings.Repeat("\r\n", 10)[:at]
		answers(t, "blanks alone", blanks, nexts{size: at / 2 * 2, err: errMore})
	}
	answers(t, "nothing", "", nexts{err: errMore})
	// Blanks behind a frame are the next one's.
	answers(t, "blanks behind", s+"\n\n"+s, nexts{f, len(s), ok})
}

func TestP18_1_WrittenByBackslashesUpToMaxFrame(t *testing.T) {
	// Each of these is two bytes when it is written, but in CONNECT.
	for _, c := range []string{"\\", ":", "\n", "\r"} {
		for count := 8170; count < 8200; count++ {
			text := strings.Repeat(c, count)
			f := frame("SEND", "", "h", text)
			got := encode(f)
			if size := 4 + 1 + 2 + 2*count + 1 + 1 + 1; size > 16384 {
				is(t, "Encode", got, encodes{err: errArg})
			} else {
				is(t, "Encode", len(got.b), size)
				answers(t, "backslashes", got.b, nexts{f, size, ok})
			}
			f = frame("SEND", "", text, "")
			got = encode(f)
			if size := 4 + 1 + 1 + 2*count + 1 + 1 + 1; size > 16384 {
				is(t, "Encode", got, encodes{err: errArg})
			} else {
				is(t, "Encode", len(got.b), size)
				answers(t, "backslashes", got.b, nexts{f, size, ok})
			}
		}
	}
	bare := frame("CONNECT", "", "h", strings.Repeat("\\", 16371))
	goesTo := "CONNECT\nh:" + strings.Repeat("\\", 16371) + "\n\n\x00"
	is(t, "its bytes", len(goesTo), 16384)
	is(t, "Encode of CONNECT", encode(bare), encodes{goesTo, ok})
	answers(t, "CONNECT", goesTo, nexts{bare, 16384, ok})
}

func TestP18_2_NextOfEncode(t *testing.T) {
	t.Parallel()
	r := rand.New(rand.NewSource(182))
	greatest := 0
	for range 10000 {
		f := someFrame(r)
		b := encode(f)
		is(t, "Encode", b, twinEncode(f))
		if b.err != ok {
			continue
		}
		greatest = max(greatest, len(b.b))
		answers(t, "of Encode", b.b, nexts{f, len(b.b), ok})
		answers(t, "of Encode, and more", b.b+someText(r, 300), nexts{f, len(b.b), ok})
		answers(t, "of Encode, and another", b.b+b.b, nexts{f, len(b.b), ok})
		answers(t, "of Encode, and much more", b.b+strings.Repeat(someText(r, 300), 100), nexts{f, len(b.b), ok})
		for range 20 {
			answers(t, "of a beginning", b.b[:r.Intn(len(b.b))], nexts{err: errMore})
		}
		is(t, "Encode of Next", encode(next(b.b).f), b)
	}
	if greatest < 3000 {
		t.Errorf("the greatest frame had %d bytes", greatest)
	}
}

func TestP18_2_AllBeginningsOfGreatFrames(t *testing.T) {
	var list []api.Header
	for at := range 31 {
		list = append(list, api.Header{Name: fmt.Sprint("header-", at), Text: strings.Repeat(":", 200)})
	}
	list = append(list, api.Header{Name: "content-length", Text: "1024"})
	for _, f := range []api.Sframe{
		{Command: "SEND", Headers: list, Body: strings.Repeat("\x00", 1024)},
		{Command: "SEND", Headers: list[:31], Body: strings.Repeat("\n", 1024)},
		frame("CONNECT", "", "h", strings.Repeat("t", 16371)),
		frame("SEND", strings.Repeat("x", 1024), "h", strings.Repeat("t", 16384-4-1-2-1-1-1024-1)),
	} {
		b := encode(f)
		is(t, "Encode", b.err, ok)
		reads(t, "a great one", b.b, f)
	}
}

// once: that what is told of a beginning stays, whatever comes behind: till then bytes are missing, and as many are passed over as there can be.
func once(t *testing.T, s string) {
	t.Helper()
	var told *nexts
	passed := 0
	for at := range len(s) + 1 {
		got := next(s[:at])
		switch {
		case told != nil:
			if !same(got, *told) {
				t.Errorf("%d bytes of %.300q: %.500s\nnot %.500s", at, s, fmt.Sprintf("%#v", got), fmt.Sprintf("%#v", *told))
				return
			}
		case got.err == errMore:
			if got.size < passed || got.size != sframe.Blanks(s[:at]) {
				t.Errorf("%d bytes of %.300q: %d passed over", at, s, got.size)
			}
			passed = got.size
		default:
			told = &got
		}
	}
}

func TestP18_3_OnceAndForAll(t *testing.T) {
	t.Parallel()
	r := rand.New(rand.NewSource(183))
	count := make(map[api.Errno]int)
	for n := range 4000 {
		f := anyFrame(r)
		// Few headers: all beginnings are read.
		f.Headers = f.Headers[:min(len(f.Headers), 6)]
		s := one(r, "", "\n", "\r\n", "\r\n\n") + encode(f).b
		if n%3 > 0 {
			s = spoilt(r, s)
		}
		s = s[:min(len(s), 1500)] + someText(r, 20)
		once(t, s)
		got := next(s)
		answers(t, "as the twin", s, twinNext(s))
		if got.err != errMore {
			for range 10 {
				answers(t, "with others behind", s+strings.Repeat(someText(r, 30), one(r, 1, 1000)), got)
			}
		}
		count[got.err]++
	}
	if count[ok] < 500 || count[errProto] < 500 || count[errMore] < 500 || len(count) != 3 {
		t.Errorf("how often what: %v", count)
	}
}

func TestP18_3_OnceAndForAllAboutMaxFrame(t *testing.T) {
	t.Parallel()
	for _, blanks := range []string{"", "\n\r\n"} {
		for _, end := range []string{"\n\nhi\x00", "\n\r\nhi\x00", "\r\n\r\n\x00", "\n\n\n\n\n\n\n\n", "\r\r\r\r\r\n\n\x00", "\nx\n\n\x00", "ttttttttttt"} {
			for over := range 12 {
				s := blanks + "SEND\nh:" + strings.Repeat("t", 16384-7-over) + end + "tttttttttt\n\n\x00"
				var told *nexts
				for at := len(blanks) + 16384 - 20; at <= len(s); at++ {
					got := next(s[:at])
					if told != nil {
						answers(t, "with others behind", s[:at], *told)
					} else if got.err != errMore {
						told = &got
					}
					if at >= len(blanks)+16384 && got.err == errMore {
						t.Errorf("%d bytes: some are missing", at-len(blanks))
					}
				}
			}
		}
	}
}

// A row of frames is told as the same frames, however it was cut, if what was passed over is taken away.
func TestP18_3_RowsInPieces(t *testing.T) {
	t.Parallel()
	r := rand.New(rand.NewSource(184))
	for range 1500 {
		var want []api.Sframe
		row := ""
		for range 1 + r.Intn(6) {
			f := someFrame(r)
			b := encode(f)
			if b.err != ok {
				continue
			}
			want = append(want, f)
			row += strings.Repeat(one(r, "", "\n", "\r\n", "\n\r\n"), r.Intn(3)) + b.b
		}
		row += one(r, "", "\n", "\r\n")
		var got []api.Sframe
		rest := ""
		for piece := one(r, 1, 2, 7, 300, 5000, 100000); row != ""; {
			size := min(len(row), piece)
			rest, row = rest+row[:size], row[size:]
			for {
				n := next(rest)
				rest = rest[n.size:]
				if n.err != ok {
					is(t, "a row", n.err, errMore)
					break
				}
				got = append(got, n.f)
			}
		}
		is(t, "what is left", rest, "")
		if !slices.EqualFunc(got, want, func(a, b api.Sframe) bool { return same(nexts{f: a}, nexts{f: b}) }) {
			t.Errorf("%.700s\nnot %.700s", fmt.Sprintf("%#v", got), fmt.Sprintf("%#v", want))
		}
	}
}

func TestP18_1_EncodeAsTheTwin(t *testing.T) {
	t.Parallel()
	r := rand.New(rand.NewSource(185))
	count := make(map[api.Errno]int)
	for range 25000 {
		f := anyFrame(r)
		want := twinEncode(f)
		if got := encode(f); got != want {
			t.Errorf("Encode of %.300s: %.300q, %d, not %.300q, %d", fmt.Sprintf("%#v", f), got.b, got.err, want.b, want.err)
		}
		count[want.err]++
		for _, h := range f.Headers {
			text, there := twinGet(f, h.Name)
			is(t, "Get", get(f, h.Name), gets{text, there})
		}
	}
	if count[ok] < 5000 || count[errArg] < 5000 || len(count) != 2 {
		t.Errorf("how often what: %v", count)
	}
}

func TestP18_1_NextAsTheTwin(t *testing.T) {
	t.Parallel()
	r := rand.New(rand.NewSource(186))
	count := make(map[api.Errno]int)
	for n := range 40000 {
		f := someFrame(r)
		s := strings.Repeat(one(r, "", "\n", "\r\n"), r.Intn(3)) + encode(f).b
		if n%4 > 0 {
			s = spoilt(r, s)
		}
		s += one(r, "", someText(r, 20))
		want := twinNext(s)
		answers(t, "as the twin", s, want)
		is(t, "Blanks", sframe.Blanks(s), len(twinBlanks.FindString(s)))
		count[want.err]++
	}
	if count[ok] < 8000 || count[errProto] < 5000 || count[errMore] < 2500 || len(count) != 3 {
		t.Errorf("how often what: %v", count)
	}
}

func TestP1_BytesOfAllKinds(t *testing.T) {
	t.Parallel()
	r := rand.New(rand.NewSource(187))
	for size := range 20000 {
		b := make([]byte, size/50)
		r.Read(b)
		answers(t, "bytes of all kinds", string(b), twinNext(string(b)))
		s := someText(r, size/50)
		answers(t, "bytes with a meaning", s, twinNext(s))
		s = one(r, "SEND\n", "CONNECT\r\n") + one(r, "", "a:b\n", "content-length:3\n", "a:\\n\r\n") + s
		answers(t, "bytes with a meaning behind a command", s, twinNext(s))
	}
	for _, unit := range []string{"\n", "\r\n", "A", "\x00", "a:b\n", "\\", "\r", "SEND\n\n\x00"} {
		huge := strings.Repeat(unit, 1<<22/len(unit))
		answers(t, "many bytes", huge, twinNext(huge))
		answers(t, "few of many bytes", "SEND\n\n\x00"+huge, nexts{frame("SEND", ""), 7, ok})
		refused(t, "many bytes", frame(huge, ""))
		refused(t, "many bytes", frame("SEND", huge))
		refused(t, "many bytes", frame("SEND", "", huge, ""))
		refused(t, "many bytes", frame("SEND", "", "a", huge))
		refused(t, "many bytes", frame("CONNECT", "", "a", huge))
		is(t, "Get of many bytes", get(frame("SEND", "", huge, huge), huge), gets{huge, true})
	}
}
