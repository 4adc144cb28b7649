package sframe_test

import (
	"fmt"
	"math/rand"
	"regexp"
	"strconv"
	"strings"

	"trivet/api"
)

// A twin of the package, made of patterns: it looks at a whole head at once.
var (
	twinBlanks  = regexp.MustCompile(`^(?:\r?\n)*`)
	twinEmpty   = regexp.MustCompile(`\n\r?\n`)
	twinHead    = regexp.MustCompile(`^[A-Z]{1,16}\r?\n(?:[^:\n]+:[^\n]*\n){0,32}\r?\n$`)
	twinHeader  = regexp.MustCompile(`(?m)^([^:\n]+):([^\n]*?)\r?$`)
	twinBare    = regexp.MustCompile(`^CONNECT(?:ED)?$`)
	twinText    = regexp.MustCompile(`^(?:[^\\]|\\[\\rnc])*$`)
	twinLength  = regexp.MustCompile(`^(?:0|[1-9][0-9]{0,2}|10[01][0-9]|102[0-4])$`)
	twinCommand = regexp.MustCompile(`^[A-Z]{1,16}$`)
	twinReading = strings.NewReplacer(`\\`, `\`, `\r`, "\r", `\n`, "\n", `\c`, ":")
	twinWriting = strings.NewReplacer(`\`, `\\`, "\r", `\r`, "\n", `\n`, ":", `\c`)
)

// twinNext: what Next answers.
func twinNext(s string) nexts {
	passed := len(twinBlanks.FindString(s))
	all := s[passed:]
	missing := nexts{size: passed, err: errMore}
	if len(all) >= maxFrame {
		all, missing = all[:maxFrame], nexts{err: errProto}
	}
	place := twinEmpty.FindStringIndex(all)
	if place == nil {
		return missing
	}
	head, behind := all[:place[1]], all[place[1]:]
	f, is := twinReadHead(head)
	if !is {
		return nexts{err: errProto}
	}
	size := strings.IndexByte(behind, 0)
	if text, is := twinGet(f, "content-length"); is {
		if !twinLength.MatchString(text) {
			return nexts{err: errProto}
		}
		size, _ = strconv.Atoi(text)
	} else if size > maxBody || size < 0 && len(behind) > maxBody {
		return nexts{err: errProto}
	} else if size < 0 {
		return missing
	}
	if len(behind) < size+1 {
		return missing
	}
	if behind[size] != 0 {
		return nexts{err: errProto}
	}
	f.Body = behind[:size]
	return nexts{f, passed + len(head) + size + 1, ok}
}

// twinReadHead: the command and the headers that a head tells.
func twinReadHead(head string) (api.Sframe, bool) {
	if !twinHead.MatchString(head) {
		return api.Sframe{}, false
	}
	f := api.Sframe{Command: strings.TrimRight(strings.SplitN(head, "\n", 2)[0], "\r")}
	for _, m := range twinHeader.FindAllStringSubmatch(head, -1) {
		name, text := m[1], m[2]
		if !twinBare.MatchString(f.Command) {
			if !twinText.MatchString(name) || !twinText.MatchString(text) {
				return api.Sframe{}, false
			}
			name, text = twinReading.Replace(name), twinReading.Replace(text)
		}
		f.Headers = append(f.Headers, api.Header{Name: name, Text: text})
	}
	return f, true
}

// twinGet: what Get answers.
func twinGet(f api.Sframe, name string) (string, bool) {
	texts := make(map[string]string)
	for at := len(f.Headers) - 1; at >= 0; at-- {
		texts[f.Headers[at].Name] = f.Headers[at].Text
	}
	text, is := texts[name]
	return text, is
}

// twinEncode: what Encode answers.
func twinEncode(f api.Sframe) encodes {
	no := encodes{err: errArg}
	bare := twinBare.MatchString(f.Command)
	text := f.Command + "\n"
	for _, h := range f.Headers {
		if h.Name == "" || bare && (strings.ContainsAny(h.Name, ":") || strings.ContainsAny(h.Name+h.Text, "\r\n")) {
			return no
		}
		if !bare {
			h = api.Header{Name: twinWriting.Replace(h.Name), Text: twinWriting.Replace(h.Text)}
		}
		text += h.Name + ":" + h.Text + "\n"
	}
	text += "\n" + f.Body + "\x00"
	size, is := twinGet(f, "content-length")
	if is && size != fmt.Sprint(len(f.Body)) || !is && strings.Contains(f.Body, "\x00") {
		return no
	}
	if !twinCommand.MatchString(f.Command) || len(f.Headers) > maxHeaders || len(f.Body) > maxBody || len(text) > maxFrame {
		return no
	}
	return encodes{text, ok}
}

// someText: a text of at most so many bytes, of which many have a meaning in a frame.
func someText(r *rand.Rand, most int) string {
	b := make([]byte, r.Intn(most+1))
	for at := range b {
		b[at] = one(r, byte(r.Intn(256)), "\\\r\n:"[r.Intn(4)], "rnct\x00ab0 "[r.Intn(9)])
	}
	return string(b)
}

// plainText: a text of at most so many bytes, in which nothing has a meaning.
func plainText(r *rand.Rand, most int) string {
	b := make([]byte, r.Intn(most+1))
	for at := range b {
		b[at] = "abcxyz019-.\\ \x00\xff\xc3\xa9"[r.Intn(17)]
	}
	return string(b)
}

// someFrame: a frame that can be.
func someFrame(r *rand.Rand) api.Sframe {
	f := api.Sframe{Command: one(r, commands...)}
	text := someText
	if isBare(f.Command) {
		text = plainText
	}
	for range one(r, 0, 1, 2, 5, r.Intn(maxHeaders)) {
		f.Headers = append(f.Headers, api.Header{Name: "x" + text(r, 5), Text: text(r, one(r, 0, 3, 20, 200))})
	}
	f.Body = someText(r, one(r, 0, 5, 100, maxBody))
	if strings.Contains(f.Body, "\x00") || r.Intn(4) == 0 {
		at := r.Intn(len(f.Headers) + 1)
		rest := append([]api.Header{{Name: "content-length", Text: fmt.Sprint(len(f.Body))}}, f.Headers[at:]...)
		f.Headers = append(f.Headers[:at:at], rest...)
	}
	return f
}

// anyFrame: a frame that may be one that can't be.
func anyFrame(r *rand.Rand) api.Sframe {
	f := someFrame(r)
	switch r.Intn(8) {
	case 0:
		f.Command = one(r, "", "send", "SEND ", "SE-ND", "S:D", "SEND\n", "SEND\r", "ABCDEFGHIJKLMNOPQ", someText(r, 4))
	case 1:
		f.Headers = append(f.Headers, headers(someText(r, 1), someText(r, 3))...)
	case 2:
		f.Headers = append(f.Headers, headers("content-length", fmt.Sprint(len(f.Body)+r.Intn(3)-1))...)
	case 3:
		f.Headers = append(headers("content-length", one(r, "", "0", "00", "1", "+1", "1024", "1025", fmt.Sprint(len(f.Body)))), f.Headers...)
	case 4:
		f.Headers = append(f.Headers, make([]api.Header, one(r, 1, 40))...)
		for at := range f.Headers {
			f.Headers[at].Name += "y"
		}
	case 5:
		f.Body += someText(r, 40) + strings.Repeat("z", r.Intn(1100))
	case 6:
		f.Command = one(r, "CONNECT", "CONNECTED")
	case 7:
		f.Headers = append(f.Headers, headers("z", strings.Repeat(one(r, "z", "\\", ":"), one(r, 7000, 8200, 16000, 17000)))...)
	}
	return f
}

// spoilt: bytes with something changed in them.
func spoilt(r *rand.Rand, s string) string {
	for range 1 + r.Intn(3) {
		at := r.Intn(len(s) + 1)
		to := min(len(s), at+r.Intn(3))
		s = s[:at] + one(r, "", "\n", "\r", "\r\n", "\n\n", ":", "\\", "\x00", "a", "\\n", "\\t", someText(r, 3)) + s[to:]
	}
	if r.Intn(4) == 0 {
		s = strings.ReplaceAll(s, "\n", one(r, "\r\n", "\r\r\n", "\n\r", "\n"))
	}
	if r.Intn(4) == 0 {
		s = s[:r.Intn(len(s)+1)]
	}
	return s
}
