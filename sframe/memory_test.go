package sframe_test

import (
	"slices"
	"strings"
	"testing"
	"unsafe"

	"trivet/api"
	"trivet/sframe"
)

// inside: whether a text's bytes lie in those of another one.
func inside(s, whole string) bool {
	from, at := uintptr(unsafe.Pointer(unsafe.StringData(whole))), uintptr(unsafe.Pointer(unsafe.StringData(s)))
	return s != "" && from <= at && at < from+uintptr(len(whole))
}

// overwrite writes over bytes, and over the room behind them.
func overwrite(b []byte) {
	for at := range b[:cap(b)] {
		b[:cap(b)][at] = '!'
	}
}

// writable: a text whose bytes can be written.
func writable(s string) (string, []byte) {
	if s == "" {
		return "", nil
	}
	b := []byte(s)
	return unsafe.String(&b[0], len(b)), b
}

// texts: all texts of a frame.
func texts(f api.Sframe) []string {
	all := []string{f.Command, f.Body}
	for _, h := range f.Headers {
		all = append(all, h.Name, h.Text)
	}
	return all
}

// deep: a frame that shares nothing with another one.
func deep(f api.Sframe) api.Sframe {
	c := api.Sframe{Command: strings.Clone(f.Command), Body: strings.Clone(f.Body)}
	for _, h := range f.Headers {
		c.Headers = append(c.Headers, api.Header{Name: strings.Clone(h.Name), Text: strings.Clone(h.Text)})
	}
	return c
}

// kept: frames whose memory is looked at.
var kept = []api.Sframe{
	frame("SEND", ""),
	frame("SEND", "hello"),
	frame("SEND", "hello", "abc", "def"),
	frame("SEND", "hello", "a:b", "c\\d\r\n", "abc", ""),
	frame("CONNECT", "hello", "abc", "def", "ghi", "j:\\k"),
	frame("CONNECTED", "", "abc", "def"),
	frame("MESSAGE", "he\x00lo", "content-length", "5", "abc", "def"),
	frame("MESSAGE", strings.Repeat("x", 1024), "abc", strings.Repeat("d", 10000)),
}

func TestP18_1_MemoryOfEncode(t *testing.T) {
	for _, f := range kept {
		want := encode(f).b
		in := api.Sframe{}
		var all [][]byte
		own := func(s string) string {
			text, b := writable(s)
			all = append(all, b)
			return text
		}
		in.Command, in.Body = own(f.Command), own(f.Body)
		for _, h := range f.Headers {
			in.Headers = append(in.Headers, api.Header{Name: own(h.Name), Text: own(h.Text)})
		}
		in.Headers = append(in.Headers, headers("room", "room", "more", "more")...)[:len(in.Headers)]
		was := slices.Clone(in.Headers[:cap(in.Headers)])
		first, _ := sframe.Encode(in)
		second, _ := sframe.Encode(in)
		is(t, "Encode", string(first), want)
		if !slices.Equal(in.Headers[:cap(in.Headers)], was) || !same(nexts{f: in}, nexts{f: f}) {
			t.Errorf("what was handed in: %#v", in.Headers[:cap(in.Headers)])
		}
		overwrite(first)
		is(t, "another answer", string(second), want)
		third, err := sframe.Encode(in)
		is(t, "a later answer", encodes{string(third), err}, encodes{want, ok})
		overwrite(second)
		for _, b := range all {
			overwrite(b)
		}
		clear(in.Headers[:cap(in.Headers)])
		is(t, "behind what the caller wrote", string(third), want)
		is(t, "a later answer", encode(f).b, want)
	}
	// Of what can't be, too.
	for _, in := range []api.Sframe{frame("x", "", "abc", "def"), frame("SEND", "\x00", "abc", "def"), frame("SEND", "", "", "def"), frame("CONNECT", "", "a:b", "def"), frame("SEND", "", "abc", strings.Repeat("\n", 16000))} {
		in.Headers = append(in.Headers, headers("room", "room")...)[:1]
		was := slices.Clone(in.Headers[:2])
		refused(t, "what can't be", in)
		if !slices.Equal(in.Headers[:2], was) {
			t.Errorf("what was handed in: %#v", in.Headers[:2])
		}
	}
}

func TestP18_1_MemoryOfNext(t *testing.T) {
	for _, f := range kept {
		want := nexts{deep(f), len(encode(f).b), ok}
		s, b := writable(encode(f).b + "SEND\n\n\x00")
		was := strings.Clone(s)
		got, again := next(s), next(s)
		is(t, "what was handed in", s, was)
		for _, text := range texts(got.f) {
			if inside(text, s) {
				t.Errorf("%.300q shares memory with what was read", text)
			}
			for _, other := range texts(again.f) {
				// The language itself keeps texts of one byte.
				if len(text) > 1 && inside(text, other) {
					t.Errorf("%.300q shares memory with another answer", text)
				}
			}
		}
		// The list, and the room behind it, are the caller's.
		for at := range got.f.Headers[:cap(got.f.Headers)] {
			got.f.Headers[:cap(got.f.Headers)][at] = api.Header{Name: "!", Text: "!"}
		}
		overwrite(b)
		if !same(again, want) {
			t.Errorf("behind what the caller wrote: %.700v, not %.700v", again, want)
		}
		answers(t, "of other bytes", s, nexts{err: errMore})
		answers(t, "a later answer", was, want)
	}
}

func TestP18_1_MemoryOfGetAndBlanks(t *testing.T) {
	for _, f := range kept {
		f := deep(f)
		f.Headers = append(f.Headers, headers("room", "room")...)[:len(f.Headers)]
		was := slices.Clone(f.Headers[:cap(f.Headers)])
		is(t, "Get of what stands in the room", get(f, "room"), gets{})
		for _, h := range f.Headers {
			is(t, "Get", get(f, h.Name), gets{h.Text, true})
		}
		if !slices.Equal(f.Headers[:cap(f.Headers)], was) {
			t.Errorf("what was handed in: %#v", f.Headers[:cap(f.Headers)])
		}
	}
	s, b := writable("\n\r\nSEND")
	is(t, "Blanks", sframe.Blanks(s), 3)
	is(t, "what was handed in", string(b), "\n\r\nSEND")
	b[0] = 'A'
	is(t, "Blanks of other bytes", sframe.Blanks(s), 0)
}
