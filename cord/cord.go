// Package cord is layer 1: numbers and texts as bytes that can be read by eye. See shared/doc/01-cord.md.
package cord

import (
	"bytes"
	"math"
	"strconv"
)

// Num: bytes with numbers behind them.
func Num(b []byte, list ...int) []byte {
	// A copy: to append to b itself would write into its spare room.
	out := bytes.Clone(b)
	for _, n := range list {
		out = strconv.AppendInt(out, int64(n), 10)
		out = append(out, ';')
	}
	return out
}

// Str: bytes with a text behind them.
func Str(b []byte, s string) []byte {
	out := bytes.Clone(b)
	out = strconv.AppendInt(out, int64(len(s)), 10)
	out = append(out, ':')
	out = append(out, s...)
	return append(out, ',')
}

// Reader reads numbers and texts; from the first thing that isn't there on it reads nothing more.
type Reader struct {
	rest []byte
	bad  bool
}

// New: a reader of bytes.
func New(b []byte) *Reader {
	return &Reader{rest: bytes.Clone(b)}
}

// Num: the number that comes next; 0: there is none.
func (r *Reader) Num() int {
	return r.number(math.MinInt)
}

// Count: the number that comes next, if it isn't below 0.
func (r *Reader) Count() int {
	return r.number(0)
}

// Str: the text that comes next; empty: there is none.
func (r *Reader) Str() string {
	if r.Bad() {
		return ""
	}
	n, size, ok := digits(r.rest, ':')
	// The comma needs a byte more. size+n is taken behind this alone: before, it may wrap round.
	if !ok || n < 0 || n >= len(r.rest)-size || r.rest[size+n] != ',' {
		r.spoil()
		return ""
	}
	text := string(r.rest[size : size+n])
	r.rest = r.rest[size+n+1:]
	return text
}

// Bad: whether something wasn't there.
func (r *Reader) Bad() bool {
	return r == nil || r.bad
}

// Left: how many bytes weren't read.
func (r *Reader) Left() int {
	if r == nil {
		return 0
	}
	return len(r.rest)
}

// End: whether all was read, and was there.
func (r *Reader) End() bool {
	return !r.Bad() && r.Left() == 0
}

// number: the number that comes next, if it isn't below least.
func (r *Reader) number(least int) int {
	if r.Bad() {
		return 0
	}
	n, size, ok := digits(r.rest, ';')
	if !ok || n < least {
		r.spoil()
		return 0
	}
	r.rest = r.rest[size:]
	return n
}

// spoil: something wasn't there, so nothing is left.
func (r *Reader) spoil() {
	r.rest = nil
	r.bad = true
}

// longest is how many bytes the number with the most of them has.
const longest = len("-9223372036854775808")

// digits: the number that b begins with, if end stands right behind it, and how many bytes they have together.
func digits(b []byte, end byte) (n, size int, ok bool) {
	at := bytes.IndexByte(b, end)
	if at < 0 || at > longest {
		return 0, 0, false
	}
	text := string(b[:at])
	n, err := strconv.Atoi(text)
	// Atoi also takes what is never written, like +1, 007 and -0.
	if err != nil || strconv.Itoa(n) != text {
		return 0, 0, false
	}
	return n, at + 1, true
}
