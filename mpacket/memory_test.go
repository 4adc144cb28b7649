package mpacket_test

import (
	"fmt"
	"slices"
	"strings"
	"testing"
	"unsafe"

	"trivet/api"
	"trivet/mpacket"
)

// inside: whether a text's bytes lie in those of another one.
func inside(s, whole string) bool {
	from, at := uintptr(unsafe.Pointer(unsafe.StringData(whole))), uintptr(unsafe.Pointer(unsafe.StringData(s)))
	return s != "" && from <= at && at < from+uintptr(len(whole))
}

// overwrite writes over bytes, and over the room behind them.
func overwrite(b []byte) {
	for at := range b[:cap(b)] {
		b[:cap(b)][at] = '!'
	}
}

// writable: a text whose bytes can be written.
func writable(s string) (string, []byte) {
	if s == "" {
		return "", nil
	}
	b := []byte(s)
	return unsafe.String(&b[0], len(b)), b
}

// texts: all texts of a packet.
func texts(p api.Packet) []string {
	return append([]string{p.Name, p.Text, p.Topic}, p.Names...)
}

// roomy: a packet that shares nothing with another one, its lists with room behind them in which something stands, and all bytes of its texts.
func roomy(p api.Packet) (api.Packet, [][]byte) {
	var all [][]byte
	own := func(s string) string {
		text, b := writable(s)
		all = append(all, b)
		return text
	}
	q := p
	q.Name, q.Text, q.Topic = own(p.Name), own(p.Text), own(p.Topic)
	q.Names, q.Codes = nil, nil
	for _, name := range p.Names {
		q.Names = append(q.Names, own(name))
	}
	q.Names = append(q.Names, "room", "more")[:len(q.Names)]
	q.Codes = append(slices.Clone(p.Codes), 1, 2)[:len(p.Codes)]
	return q, all
}

// whole: a packet's lists with the room behind them.
func whole(p api.Packet) api.Packet {
	q := p
	q.Names = slices.Clone(p.Names[:cap(p.Names)])
	q.Codes = slices.Clone(p.Codes[:cap(p.Codes)])
	return q
}

// kept: packets whose memory is looked at, by their bytes.
func kept() map[string]api.Packet {
	all := samples()
	for _, p := range []api.Packet{
		{Kind: publish, Topic: a(10000), Text: a(1024)},
		{Kind: connect, Code: 4, Will: true, Name: a(300), Topic: a(300), Text: a(1000)},
		{Kind: subscribe, Flags: 2, Id: 1, Names: times(32, "abc"), Codes: times(32, 1)},
		{Kind: suback, Id: 1, Codes: times(32, 128)},
		{Kind: unsubscribe, Flags: 2, Id: 1, Names: times(32, "abc")},
	} {
		all[twinEncode(p).b] = p
	}
	return all
}

func TestP20_1_MemoryOfEncode(t *testing.T) {
	for want, p := range kept() {
		in, all := roomy(p)
		was, _ := roomy(whole(in))
		first, _ := mpacket.Encode(in)
		second, _ := mpacket.Encode(in)
		is(t, "Encode", string(first), want)
		if !alike(whole(in), was) {
			t.Errorf("what was handed in: %#v, not %#v", whole(in), was)
		}
		overwrite(first)
		is(t, "another answer", string(second), want)
		third, err := mpacket.Encode(in)
		is(t, "a later answer", encodes{string(third), err}, encodes{want, ok})
		overwrite(second)
		for _, b := range all {
			overwrite(b)
		}
		clear(in.Names[:cap(in.Names)])
		clear(in.Codes[:cap(in.Codes)])
		is(t, "behind what the caller wrote", string(third), want)
		is(t, "a later answer", encode(p).b, want)
	}
}

// Of what can't be nothing is changed either.
func TestP20_1_MemoryOfWhatCantBe(t *testing.T) {
	for _, p := range samples() {
		for _, f := range fields {
			in, _ := roomy(p)
			f.set(&in)
			was, _ := roomy(whole(in))
			mpacket.Encode(in)
			if !alike(whole(in), was) {
				t.Errorf("what was handed in: %#v, not %#v", whole(in), was)
			}
		}
	}
}

// What stands in the room behind a list is none of it.
func TestP20_1_RoomBehindLists(t *testing.T) {
	names, codes := []string{"a", "b", "c"}, []int{0, 1, 2}
	is(t, "Subscribe", encode(api.Packet{Kind: subscribe, Flags: 2, Id: 1, Names: names[:1], Codes: codes[:1]}).b, packet(0x82, "\x00\x01\x00\x01a\x00"))
	refuses(t, "no entry", api.Packet{Kind: subscribe, Flags: 2, Id: 1, Names: names[:0], Codes: codes[:0]})
	refuses(t, "fewer codes", api.Packet{Kind: subscribe, Flags: 2, Id: 1, Names: names[:2], Codes: codes[:1]})
	is(t, "Puback", encode(api.Packet{Kind: puback, Id: 1, Names: names[:0], Codes: codes[:0]}).b, "\x40\x02\x00\x01")
}

func TestP20_1_MemoryOfNext(t *testing.T) {
	for b, p := range kept() {
		want, _ := roomy(p)
		s, bytes := writable(b + "\x30\x05\x00\x01ahi")
		was := strings.Clone(s)
		got, again := next(s), next(s)
		is(t, "what was handed in", s, was)
		for _, text := range texts(got.p) {
			if inside(text, s) {
				t.Errorf("%.300q shares memory with what was read", text)
			}
			for _, other := range texts(again.p) {
				// The language itself keeps texts of one byte.
				if len(text) > 1 && inside(text, other) {
					t.Errorf("%.300q shares memory with another answer", text)
				}
			}
		}
		// The lists, and the room behind them, are the caller's.
		for at := range got.p.Names[:cap(got.p.Names)] {
			got.p.Names[:cap(got.p.Names)][at] = "!"
		}
		for at := range got.p.Codes[:cap(got.p.Codes)] {
			got.p.Codes[:cap(got.p.Codes)][at] = 77
		}
		overwrite(bytes)
		if !same(again, nexts{want, len(b), ok}) {
			t.Errorf("behind what the caller wrote: %.700s, not %.700s", fmt.Sprint(again), fmt.Sprint(want))
		}
		// "!" is 16 times 2 and 1: no Connack.
		answers(t, "of other bytes", s, nexts{err: errProto})
		answers(t, "a later answer", was, nexts{want, len(b), ok})
	}
}
