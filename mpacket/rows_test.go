package mpacket_test

import (
	"fmt"
	"math/rand"
	"strings"
	"testing"

	"trivet/api"
)

// heard is what was read of a row: its packets, what is left of it, and the error at which the reading ended.
type heard struct {
	packets []api.Packet
	rest    string
	err     api.Errno
}

// hear reads a row that comes in by pieces: of what has come, all packets that are there, one by one.
func hear(pieces ...string) heard {
	h := heard{err: errMore}
	for _, piece := range pieces {
		if h.rest += piece; h.err != errMore {
			continue
		}
		for {
			n := next(h.rest)
			if h.err = n.err; n.err != ok {
				break
			}
			h.packets, h.rest = append(h.packets, n.p), h.rest[n.size:]
		}
	}
	return h
}

// hears: that of a row in pieces just this is read.
func hears(t *testing.T, what string, got, want heard) {
	t.Helper()
	same := len(got.packets) == len(want.packets) && got.rest == want.rest && got.err == want.err
	for at := range got.packets {
		same = same && alike(got.packets[at], want.packets[at])
	}
	if !same {
		t.Errorf("%s: %.1000s\nnot %.1000s", what, fmt.Sprintf("%#v", got), fmt.Sprintf("%#v", want))
	}
}

// What may stand at a row's end, and the error at which the reading ends there.
var tails = map[string]api.Errno{
	"":                         errMore,
	"\x40":                     errMore,
	"\x30\xff":                 errMore,
	"\x30\x80\x80":             errMore,
	"\x30\x05\x00\x01ah":       errMore,
	"\x82\x06\x00\x00\x00":     errMore,
	"GET /":                    errProto,
	"\x00":                     errProto,
	"\x42\x02\x00\x05":         errProto,
	"\x40\x02\x00\x00\x40\x02": errProto,
	"\xc0\x01\xc0\x00":         errProto,
	"\x30\x81\x80\x01aaa":      errProto,
	"\x30\x82\x00\x00\x00":     errProto,
}

// some: a row with packets of each kind, and their bytes.
func some() ([]api.Packet, string) {
	var packets []api.Packet
	whole := ""
	for s, p := range samples() {
		packets, whole = append(packets, p), whole+s
	}
	return packets, whole
}

func TestP20_3_CutAtEveryPlace(t *testing.T) {
	t.Parallel()
	packets, row := some()
	for tail, err := range tails {
		whole := row + tail
		want := heard{packets, tail, err}
		hears(t, "whole", hear(whole), want)
		hears(t, "byte by byte", hear(bytesOf(whole)...), want)
		for a := range len(whole) + 1 {
			hears(t, fmt.Sprint("cut at ", a), hear(whole[:a], whole[a:]), want)
			for b := a; b <= len(whole); b += 7 {
				hears(t, fmt.Sprint("cut at ", a, " and ", b), hear(whole[:a], whole[a:b], whole[b:]), want)
			}
		}
	}
}

// bytesOf: a text's bytes, one by one.
func bytesOf(s string) []string {
	var all []string
	for _, c := range []byte(s) {
		all = append(all, char(int(c)))
	}
	return all
}

// cut: a text in pieces of any sizes.
func cut(r *rand.Rand, s string) []string {
	var all []string
	for s != "" {
		n := 1 + r.Intn(one(r, min(9, len(s)), len(s)))
		all, s = append(all, s[:n]), s[n:]
	}
	return all
}

func TestP20_3_RowsOfAllKindsInAnyPieces(t *testing.T) {
	t.Parallel()
	r := rand.New(rand.NewSource(203))
	for range 1500 {
		var packets []api.Packet
		row := ""
		for range r.Intn(8) {
			p := somePacket(r, one(r, 5, 40, 400))
			packets, row = append(packets, p), row+twinEncode(p).b
		}
		for tail, err := range tails {
			hears(t, "a row", hear(cut(r, row+tail)...), heard{packets, tail, err})
		}
	}
}

func TestP20_3_TheGreatestPacketsInPieces(t *testing.T) {
	great := api.Packet{Kind: unsubscribe, Flags: 2, Id: 1, Names: []string{strings.Repeat("\xa2", maxFrame-4)}}
	packets := []api.Packet{great, {Kind: pingreq}, great, great}
	whole := ""
	var ends []int
	for _, p := range packets {
		whole += twinEncode(p).b
		ends = append(ends, len(whole))
	}
	for _, end := range append(ends, 0) {
		for by := -9; by <= 9; by++ {
			if at := end + by; 0 <= at && at <= len(whole) {
				hears(t, fmt.Sprint("cut at ", at), hear(whole[:at], whole[at:]), heard{packets, "", errMore})
			}
		}
	}
	var pieces []string
	for at := 0; at < len(whole); at += 1000 {
		pieces = append(pieces, whole[at:min(at+1000, len(whole))])
	}
	hears(t, "in thousands", hear(pieces...), heard{packets, "", errMore})
}

// Whatever the bytes are: what was told of a beginning, if it isn't that bytes are missing, is told of all that comes behind it.
func TestP20_3_WhatIsToldStays(t *testing.T) {
	t.Parallel()
	r := rand.New(rand.NewSource(204))
	count := make(map[api.Errno]int)
	for range 20000 {
		row := ""
		for range 1 + r.Intn(2) {
			row += twinEncode(somePacket(r, 30)).b
		}
		b := spoilt(r, row)
		told := nexts{err: errMore}
		for at := range len(b) + 1 {
			got := next(b[:at])
			if told.err != errMore && !same(got, told) {
				t.Errorf("Next of %q: %v, not %v", b[:at], got, told)
			}
			told = got
		}
		count[told.err]++
	}
	if count[ok] < 2000 || count[errProto] < 2000 || count[errMore] < 500 {
		t.Errorf("how often what: %v", count)
	}
}

// Of each proper beginning of a packet bytes are missing, and of nothing that is there.
func TestP20_2_EachBeginningOfAPacket(t *testing.T) {
	t.Parallel()
	r := rand.New(rand.NewSource(205))
	for range 3000 {
		p := somePacket(r, one(r, 5, 40, 200))
		got := encode(p)
		is(t, "Encode", got, twinEncode(p))
		for at := range got.b {
			answers(t, "a beginning", got.b[:at], nexts{err: errMore})
		}
		for _, behind := range behinds {
			answers(t, "with more behind", got.b+behind, nexts{p, len(got.b), ok})
		}
	}
}
