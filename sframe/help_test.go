package sframe_test

import (
	"fmt"
	"math/rand"
	"slices"
	"strings"
	"testing"

	"trivet/api"
	"trivet/sframe"
)

// The exact signatures: the test isn't built if one is another.
var (
	_ func(api.Sframe, string) (string, bool)   = sframe.Get
	_ func(string) int                          = sframe.Blanks
	_ func(api.Sframe) ([]byte, api.Errno)      = sframe.Encode
	_ func(string) (api.Sframe, int, api.Errno) = sframe.Next
)

// The document's numbers, not the program's.
const (
	ok         = api.Errno(0)
	errArg     = api.Errno(1)
	errProto   = api.Errno(40)
	errMore    = api.Errno(41)
	maxFrame   = 16384
	maxBody    = 1024
	maxHeaders = 32
	maxCommand = 16
)

// commands: some that there may be: the two in which names and texts stand as they are, some that are nearly those, and others.
var commands = []string{"CONNECT", "CONNECTED", "CONNECTE", "CONNEC", "ONNECT", "CONNECTX", "CONNECTEDX", "XCONNECT", "STOMP", "SEND", "MESSAGE", "A", "Z", "ABCDEFGHIJKLMNOP", "QRSTUVWXYZ"}

// isBare: whether names and texts stand as they are.
func isBare(command string) bool {
	return command == "CONNECT" || command == "CONNECTED"
}

// encodes is all that Encode can answer.
type encodes struct {
	b   string
	err api.Errno
}

func encode(f api.Sframe) encodes {
	b, err := sframe.Encode(f)
	return encodes{string(b), err}
}

// nexts is all that Next can answer.
type nexts struct {
	f    api.Sframe
	size int
	err  api.Errno
}

func next(s string) nexts {
	f, size, err := sframe.Next(s)
	return nexts{f, size, err}
}

// gets is all that Get can answer.
type gets struct {
	text string
	is   bool
}

func get(f api.Sframe, name string) gets {
	text, is := sframe.Get(f, name)
	return gets{text, is}
}

// headers: headers of these names and texts, in turns.
func headers(pairs ...string) []api.Header {
	var list []api.Header
	for at := 0; at < len(pairs); at += 2 {
		list = append(list, api.Header{Name: pairs[at], Text: pairs[at+1]})
	}
	return list
}

// frame: a frame with headers of these names and texts, in turns.
func frame(command, body string, pairs ...string) api.Sframe {
	return api.Sframe{Command: command, Headers: headers(pairs...), Body: body}
}

// char: the text of one byte.
func char(c int) string {
	return string([]byte{byte(c)})
}

// is: that something is just this.
func is[T comparable](t *testing.T, what string, got, want T) {
	t.Helper()
	if got != want {
		t.Errorf("%s: %.1000s\nnot %.1000s", what, fmt.Sprintf("%#v", got), fmt.Sprintf("%#v", want))
	}
}

// same: whether two answers of Next are the same; that a list is nil tells nothing.
func same(a, b nexts) bool {
	return a.f.Command == b.f.Command && slices.Equal(a.f.Headers, b.f.Headers) && a.f.Body == b.f.Body && a.size == b.size && a.err == b.err
}

// answers: what Next answers of some bytes.
func answers(t *testing.T, what, s string, want nexts) {
	t.Helper()
	if got := next(s); !same(got, want) {
		t.Errorf("Next, %s, of %.300q: %.700s\nnot %.700s", what, s, fmt.Sprintf("%#v", got), fmt.Sprintf("%#v", want))
	}
}

// behinds: what may stand behind a frame.
var behinds = []string{"", "\x00", "\n", "\r\n", "\r", "S", "\xff", "SEND\n\n\x00", "x\n\ny\x00", strings.Repeat("more\n\n\x00", 3000)}

// reads: that some bytes are just this frame, whatever is behind, and that none can be missing.
func reads(t *testing.T, what, s string, f api.Sframe) {
	t.Helper()
	for _, behind := range behinds {
		answers(t, what, s+behind, nexts{f, len(s), ok})
	}
	for at := range s {
		answers(t, what, s[:at], nexts{err: errMore})
	}
}

// goes: that a frame has just these bytes, and these bytes just this frame.
func goes(t *testing.T, what, s string, f api.Sframe) {
	t.Helper()
	is(t, "Encode, "+what, encode(f), encodes{s, ok})
	reads(t, what, s, f)
}

// isnt: that bytes are no frame, whatever is behind.
func isnt(t *testing.T, what, s string) {
	t.Helper()
	for _, behind := range behinds {
		answers(t, what, s+behind, nexts{err: errProto})
	}
}

// refused: that a frame can't be.
func refused(t *testing.T, what string, f api.Sframe) {
	t.Helper()
	is(t, "Encode, "+what, encode(f), encodes{err: errArg})
}

// one of some things.
func one[T any](r *rand.Rand, all ...T) T {
	return all[r.Intn(len(all))]
}
