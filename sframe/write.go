package sframe

import (
	"strconv"
	"strings"

	"trivet/api"
)

// canBe: whether a frame can be written, if its bytes aren't too many in all.
func canBe(f api.Sframe) bool {
	if !isCommand(f.Command) || len(f.Headers) > maxHeaders || len(f.Body) > api.MaxBody {
		return false
	}
	for _, h := range f.Headers {
		if !canStand(h, isBare(f.Command)) {
			return false
		}
	}
	if text, is := Get(f, contentLength); is {
		return text == strconv.Itoa(len(f.Body))
	}
	return strings.IndexByte(f.Body, last) < 0
}

// canStand: whether a header can be written, if a frame's bytes aren't too many in all.
func canStand(h api.Header, bare bool) bool {
	// More than a whole frame has needn't be written to be refused.
	if h.Name == "" || len(h.Name)+len(h.Text) > api.MaxFrame {
		return false
	}
	return !bare || !strings.ContainsAny(h.Name, ":\r\n") && !strings.ContainsAny(h.Text, "\r\n")
}

// write: the bytes of a frame.
func write(f api.Sframe) []byte {
	bare := isBare(f.Command)
	b := append([]byte(f.Command), '\n')
	for _, h := range f.Headers {
		b = append(putText(b, h.Name, bare), ':')
		b = append(putText(b, h.Text, bare), '\n')
	}
	b = append(b, '\n')
	b = append(b, f.Body...)
	return append(b, last)
}

// putText: bytes with a name or a text behind them, as a line has it.
func putText(b []byte, s string, bare bool) []byte {
	if bare {
		return append(b, s...)
	}
	for _, c := range []byte(s) {
		if which := strings.IndexByte(marked, c); which >= 0 {
			b = append(b, '\\', letters[which])
		} else {
			b = append(b, c)
		}
	}
	return b
}
