package mpacket_test

import (
	"fmt"
	"math/rand"
	"slices"
	"strings"
	"testing"

	"trivet/api"
	"trivet/mpacket"
)

// The exact signatures: the test isn't built if one is another.
var (
	_ func(api.Packet) ([]byte, api.Errno)      = mpacket.Encode
	_ func(string) (api.Packet, int, api.Errno) = mpacket.Next
)

// The document's numbers, not the program's.
const (
	ok       = api.Errno(0)
	errArg   = api.Errno(1)
	errProto = api.Errno(40)
	errMore  = api.Errno(41)
	maxFrame = 16384
	maxBody  = 1024
)

// The kinds, by the document's numbers.
const (
	connect     = 1
	connack     = 2
	publish     = 3
	puback      = 4
	pubrec      = 5
	pubrel      = 6
	pubcomp     = 7
	subscribe   = 8
	suback      = 9
	unsubscribe = 10
	unsuback    = 11
	pingreq     = 12
	pingresp    = 13
	disconnect  = 14
)

// firsts: all bytes that a packet can begin with.
var firsts = []int{0x10, 0x20, 0x30, 0x31, 0x32, 0x33, 0x34, 0x35, 0x3a, 0x3b, 0x3c, 0x3d, 0x40, 0x50, 0x62, 0x70, 0x82, 0x90, 0xa2, 0xb0, 0xc0, 0xd0, 0xe0}

// encodes is all that Encode can answer.
type encodes struct {
	b   string
	err api.Errno
}

func encode(p api.Packet) encodes {
	b, err := mpacket.Encode(p)
	return encodes{string(b), err}
}

// nexts is all that Next can answer.
type nexts struct {
	p    api.Packet
	size int
	err  api.Errno
}

func next(s string) nexts {
	p, size, err := mpacket.Next(s)
	return nexts{p, size, err}
}

// packet: the bytes of a packet that begins so, whatever it is.
func packet(first int, own string) string {
	return char(first) + length(len(own)) + own
}

// char: the text of one byte.
func char(c int) string {
	return string([]byte{byte(c)})
}

// number: two bytes.
func number(n int) string {
	return char(n/256) + char(n%256)
}

// text: how many bytes it has, and these.
func text(s string) string {
	return number(len(s)) + s
}

// length: how many bytes follow.
func length(n int) string {
	if n < 128 {
		return char(n)
	}
	return char(128+n%128) + length(n/128)
}

// a text of so many bytes.
func a(n int) string {
	return strings.Repeat("a", n)
}

// plain is all of a packet that can be held against another by ==.
type plain struct {
	kind, flags, id, code, keep int
	name, text, topic           string
	will, clean                 bool
	names, codes                int
}

func plainOf(p api.Packet) plain {
	return plain{p.Kind, p.Flags, p.Id, p.Code, p.Keep, p.Name, p.Text, p.Topic, p.Will, p.Clean, len(p.Names), len(p.Codes)}
}

// alike: whether two packets are the same; that a list is nil tells nothing.
func alike(p, q api.Packet) bool {
	return plainOf(p) == plainOf(q) && slices.Equal(p.Names, q.Names) && slices.Equal(p.Codes, q.Codes)
}

// same: whether two answers of Next are the same.
func same(x, y nexts) bool {
	return alike(x.p, y.p) && x.size == y.size && x.err == y.err
}

// is: that something is just this.
func is[T comparable](t *testing.T, what string, got, want T) {
	t.Helper()
	if got != want {
		t.Errorf("%s: %.1000s\nnot %.1000s", what, fmt.Sprintf("%#v", got), fmt.Sprintf("%#v", want))
	}
}

// answers: what Next answers of some bytes.
func answers(t *testing.T, what, s string, want nexts) {
	t.Helper()
	if got := next(s); !same(got, want) {
		t.Errorf("Next, %s, of %.300q: %.700s\nnot %.700s", what, s, fmt.Sprintf("%#v", got), fmt.Sprintf("%#v", want))
	}
}

// behinds: what may stand behind a packet.
var behinds = []string{"", "\x00", "\x01", "\x80", "\xff", "\xc0\x00", "a", "\x00\x01a", "\x00\x01a\x00", "\x30\x05\x00\x01ahi", strings.Repeat("\x00\x01a\x00", 5000)}

// reads: that some bytes are just this packet, whatever is behind, and that none can be missing.
func reads(t *testing.T, what, s string, p api.Packet) {
	t.Helper()
	for _, behind := range behinds {
		answers(t, what, s+behind, nexts{p, len(s), ok})
	}
	for at := range s {
		// Of long ones not every place.
		if at < 40 || at > len(s)-5 || at%997 == 0 {
			answers(t, what, s[:at], nexts{err: errMore})
		}
	}
}

// goes: that a packet has just these bytes, and these bytes are just this packet.
func goes(t *testing.T, what, s string, p api.Packet) {
	t.Helper()
	is(t, "Encode, "+what, encode(p), encodes{s, ok})
	reads(t, what, s, p)
}

// told: that bytes are no packet, whatever is behind, and that this is told as soon as so many of them are there.
func told(t *testing.T, what, s string, at int) {
	t.Helper()
	for _, behind := range behinds {
		answers(t, what, s+behind, nexts{err: errProto})
	}
	for n := range s {
		want := nexts{err: errMore}
		if n >= at {
			want.err = errProto
		}
		answers(t, what, s[:n], want)
	}
}

// isnt: that a packet that begins so can't have these bytes behind its length.
func isnt(t *testing.T, what string, first int, own string) {
	t.Helper()
	s := packet(first, own)
	told(t, what, s, len(s))
}

// refuses: that a packet can't be.
func refuses(t *testing.T, what string, p api.Packet) {
	t.Helper()
	if b, err := mpacket.Encode(p); len(b) != 0 || err != errArg {
		t.Errorf("Encode, %s, of %.500s: %.100q, %d", what, fmt.Sprintf("%#v", p), b, err)
	}
}

// one of some things.
func one[T any](r *rand.Rand, all ...T) T {
	return all[r.Intn(len(all))]
}

// times: a list of one thing, so many times.
func times[T any](n int, x T) []T {
	return slices.Repeat([]T{x}, n)
}
