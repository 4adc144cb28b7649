package aframe_test

import (
	"fmt"
	"math/rand"
	"slices"
	"strings"
	"testing"

	"trivet/api"
)

// heard is what was read of a row: its frames, what is left of it, and the error at which the reading ended.
type heard struct {
	frames []api.Frame
	rest   string
	err    api.Errno
}

// hear reads a row that comes in by pieces: of what has come, all frames that are there, one by one.
func hear(pieces ...string) heard {
	h := heard{err: errMore}
	for _, piece := range pieces {
		if h.rest += piece; h.err != errMore {
			continue
		}
		for {
			n := next(h.rest)
			if h.err = n.err; n.err != ok {
				break
			}
			h.frames, h.rest = append(h.frames, n.f), h.rest[n.size:]
		}
	}
	return h
}

// hears: that of a row in pieces just this is read.
func hears(t *testing.T, what string, got, want heard) {
	t.Helper()
	if !slices.Equal(got.frames, want.frames) || got.rest != want.rest || got.err != want.err {
		t.Errorf("%s: %.1000s\nnot %.1000s", what, fmt.Sprintf("%#v", got), fmt.Sprintf("%#v", want))
	}
}

// row: the bytes of frames, one behind the other.
func row(frames ...api.Frame) string {
	b := ""
	for _, f := range frames {
		b += frame(f.Type, f.Channel, f.Payload)
	}
	return b
}

// some: a row with a frame of each type, among whose bytes are such that begin and end frames.
var some = []api.Frame{
	{Type: 1, Channel: 1, Payload: "abc"},
	{Type: 8},
	{Type: 2, Channel: 0x0801, Payload: "\xce\x08\x00\x00\x00\x00\x00\x00\xce"},
	{Type: 3, Channel: 65535, Payload: "\xce"},
	{Type: 3, Channel: 1},
	{Type: 8, Channel: 0xcece, Payload: "\x01"},
}

// What may stand at a row's end, and the error at which the reading ends there.
var tails = map[string]api.Errno{
	"":                                     errMore,
	"\x01":                                 errMore,
	"\x08\x00\x00\x00\x00\x00\x00":         errMore,
	"\x03\x00\x01\x00\x00\x00\x05hell":     errMore,
	"\x01\x00\x00\x00\x00\x40\x00x\xce":    errMore,
	"GET /":                                errProto,
	"\xce":                                 errProto,
	"\x01\x00\x00\x00\x00\x40\x01":         errProto,
	"\x08\x00\x00\x00\x00\x00\x00\xcf\x08": errProto,
	"\x03\x00\x01\x00\x00\x00\x01aa\xce":   errProto,
}

func TestP16_3_CutAtEveryPlace(t *testing.T) {
	for tail, err := range tails {
		whole := row(some...) + tail
		want := heard{some, tail, err}
		hears(t, "whole", hear(whole), want)
		hears(t, "byte by byte", hear(bytesOf(whole)...), want)
		for a := range len(whole) + 1 {
			hears(t, fmt.Sprint("cut at ", a), hear(whole[:a], whole[a:]), want)
			for b := a; b <= len(whole); b++ {
				hears(t, fmt.Sprint("cut at ", a, " and ", b), hear(whole[:a], whole[a:b], whole[b:]), want)
			}
		}
	}
}

// bytesOf: a text's bytes, one by one.
func bytesOf(s string) []string {
	var all []string
	for _, c := range []byte(s) {
		all = append(all, char(int(c)))
	}
	return all
}

// cut: a text in pieces of any sizes.
func cut(r *rand.Rand, s string) []string {
	var all []string
	for s != "" {
		n := 1 + r.Intn(one(r, min(9, len(s)), len(s)))
		all, s = append(all, s[:n]), s[n:]
	}
	return all
}

func TestP16_3_RowsOfAllKindsInAnyPieces(t *testing.T) {
	t.Parallel()
	r := rand.New(rand.NewSource(164))
	for range 3000 {
		var frames []api.Frame
		for range r.Intn(8) {
			frames = append(frames, someFrame(r, one(r, 5, 40, 1000)))
		}
		for tail, err := range tails {
			hears(t, "a row", hear(cut(r, row(frames...)+tail)...), heard{frames, tail, err})
		}
	}
}

func TestP16_3_TheGreatestFramesInPieces(t *testing.T) {
	great := api.Frame{Type: 3, Channel: 1, Payload: strings.Repeat("\xce", maxFrame)}
	frames := []api.Frame{great, {Type: 8}, great, great}
	whole := row(frames...)
	var ends []int
	for _, f := range frames {
		size := len(f.Payload) + 8
		from := 0
		if len(ends) > 0 {
			from = ends[len(ends)-1]
		}
		ends = append(ends, from+size)
	}
	for _, end := range append(ends, 0) {
		for by := -9; by <= 9; by++ {
			if at := end + by; 0 <= at && at <= len(whole) {
				hears(t, fmt.Sprint("cut at ", at), hear(whole[:at], whole[at:]), heard{frames, "", errMore})
			}
		}
	}
	var pieces []string
	for at := 0; at < len(whole); at += 1000 {
		pieces = append(pieces, whole[at:min(at+1000, len(whole))])
	}
	hears(t, "in thousands", hear(pieces...), heard{frames, "", errMore})
}

// Whatever the bytes are: what was told of a beginning, if it isn't that bytes are missing, is told of all that comes behind it.
func TestP16_3_WhatIsToldStays(t *testing.T) {
	t.Parallel()
	r := rand.New(rand.NewSource(165))
	count := make(map[api.Errno]int)
	for range 20000 {
		var frames []api.Frame
		for range 1 + r.Intn(2) {
			frames = append(frames, someFrame(r, 40))
		}
		b := spoilt(r, row(frames...))
		told := nexts{err: errMore}
		for at := range len(b) + 1 {
			got := next(b[:at])
			if told.err != errMore {
				is(t, fmt.Sprintf("Next of %q", b[:at]), got, told)
			}
			told = got
		}
		count[told.err]++
	}
	if count[ok] < 2000 || count[errProto] < 2000 || count[errMore] < 2000 {
		t.Errorf("how often what: %v", count)
	}
}

// Of each beginning of which bytes are missing a frame can come, if its length isn't too great already.
func TestP16_3_WhatIsMissingCanCome(t *testing.T) {
	t.Parallel()
	r := rand.New(rand.NewSource(166))
	count := 0
	for range 20000 {
		f := someFrame(r, 40)
		b := spoilt(r, row(f))
		if next(b).err != errMore {
			continue
		}
		begun := b
		if b == "" {
			b = "\x08"
		}
		b += strings.Repeat("\x00", max(0, 7-len(b)))
		size := int(b[3])<<24 | int(b[4])<<16 | int(b[5])<<8 | int(b[6])
		if size > maxFrame {
			is(t, fmt.Sprintf("%q, too great", b), next(b), nexts{err: errProto})
			continue
		}
		b += strings.Repeat("\x00", 7+size-len(b)) + "\xce"
		is(t, fmt.Sprintf("%q, and what is missing", begun), next(b), nexts{api.Frame{Type: int(b[0]), Channel: int(b[1])<<8 | int(b[2]), Payload: b[7 : 7+size]}, 8 + size, ok})
		count++
	}
	if count < 2000 {
		t.Errorf("how many: %d", count)
	}
}
