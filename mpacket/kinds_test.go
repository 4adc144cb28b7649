package mpacket_test

import (
	"fmt"
	"math"
	"slices"
	"testing"

	"trivet/api"
	"trivet/mpacket"
)

func TestP20_1_TheKindsByTheirNames(t *testing.T) {
	is(t, "Connect", mpacket.Connect, connect)
	is(t, "Connack", mpacket.Connack, connack)
	is(t, "Publish", mpacket.Publish, publish)
	is(t, "Puback", mpacket.Puback, puback)
	is(t, "Pubrec", mpacket.Pubrec, pubrec)
	is(t, "Pubrel", mpacket.Pubrel, pubrel)
	is(t, "Pubcomp", mpacket.Pubcomp, pubcomp)
	is(t, "Subscribe", mpacket.Subscribe, subscribe)
	is(t, "Suback", mpacket.Suback, suback)
	is(t, "Unsubscribe", mpacket.Unsubscribe, unsubscribe)
	is(t, "Unsuback", mpacket.Unsuback, unsuback)
	is(t, "Pingreq", mpacket.Pingreq, pingreq)
	is(t, "Pingresp", mpacket.Pingresp, pingresp)
	is(t, "Disconnect", mpacket.Disconnect, disconnect)
}

func TestP20_1_TheChaptersExamples(t *testing.T) {
	goes(t, "Puback", "\x40\x02\x00\x05", api.Packet{Kind: puback, Id: 5})
	goes(t, "Publish", "\x32\x07\x00\x01\x61\x00\x02\x68\x69", api.Packet{Kind: publish, Flags: 2, Id: 2, Topic: "a", Text: "hi"})
	told(t, "00", "\x00", 1)
	told(t, "42", "\x42", 1)
}

func TestP20_1_NoBytes(t *testing.T) {
	answers(t, "no bytes", "", nexts{err: errMore})
}

// The first byte tells what can't be, whatever comes.
func TestP20_1_EveryFirstByte(t *testing.T) {
	for first := range 256 {
		if !slices.Contains(firsts, first) {
			told(t, fmt.Sprint("first ", first), char(first), 1)
			told(t, fmt.Sprint("first ", first), char(first)+"\x02\x00\x01", 1)
			continue
		}
		answers(t, fmt.Sprint("first ", first), char(first), nexts{err: errMore})
		answers(t, fmt.Sprint("first ", first), char(first)+"\x80", nexts{err: errMore})
		answers(t, fmt.Sprint("first ", first), char(first)+"\x7f", nexts{err: errMore})
	}
}

// samples: a packet of each kind, by its bytes: of what its kind has nothing is zero.
func samples() map[string]api.Packet {
	return map[string]api.Packet{
		packet(0x10, "\x00\x04MQTT\x04\x2e\x01\x02"+text("me")+text("w")+text("bye")): {Kind: connect, Code: 0x2e, Will: true, Clean: true, Keep: 258, Name: "me", Topic: "w", Text: "bye"},
		packet(0x20, "\x01\x05"):                           {Kind: connack, Keep: 1, Code: 5},
		packet(0x30, text("t")+"hello"):                    {Kind: publish, Topic: "t", Text: "hello"},
		packet(0x3b, text("t")+"\x01\x02hello"):            {Kind: publish, Flags: 11, Id: 258, Topic: "t", Text: "hello"},
		packet(0x40, "\x03\x04"):                           {Kind: puback, Id: 772},
		packet(0x50, "\x03\x05"):                           {Kind: pubrec, Id: 773},
		packet(0x62, "\x03\x06"):                           {Kind: pubrel, Flags: 2, Id: 774},
		packet(0x70, "\x03\x07"):                           {Kind: pubcomp, Id: 775},
		packet(0x82, "\x03\x08\x00\x02ab\x01\x00\x00\x02"): {Kind: subscribe, Flags: 2, Id: 776, Names: []string{"ab", ""}, Codes: []int{1, 2}},
		packet(0x90, "\x03\x09\x00\x01\x02\x80"):           {Kind: suback, Id: 777, Codes: []int{0, 1, 2, 128}},
		packet(0xa2, "\x03\x0a\x00\x02ab\x00\x00"):         {Kind: unsubscribe, Flags: 2, Id: 778, Names: []string{"ab", ""}},
		packet(0xb0, "\x03\x0b"):                           {Kind: unsuback, Id: 779},
		packet(0xc0, ""):                                   {Kind: pingreq},
		packet(0xd0, ""):                                   {Kind: pingresp},
		packet(0xe0, ""):                                   {Kind: disconnect},
	}
}

func TestP20_2_EachKindThereAndBack(t *testing.T) {
	for s, p := range samples() {
		goes(t, fmt.Sprint("kind ", p.Kind), s, p)
	}
}

// A kind and flags that aren't the table's can't be, though their lowest bits are.
func TestP20_1_EveryKindWithAllFlags(t *testing.T) {
	kinds := []int{math.MinInt, -256, -13, -3, -1, 16, 17, 19, 27, 256, 259, 1 << 32, 1<<60 + 3, math.MaxInt}
	for kind := range 16 {
		kinds = append(kinds, kind)
	}
	others := []int{math.MinInt, -256, -16, -14, -2, -1, 16, 18, 32, 34, 48, 130, 256, 258, 1 << 32, 1<<32 + 2, math.MaxInt}
	for flags := range 16 {
		others = append(others, flags)
	}
	for _, p := range samples() {
		for _, kind := range kinds {
			for _, flags := range others {
				q := p
				q.Kind, q.Flags = kind, flags
				can := 0 <= kind && kind < 16 && 0 <= flags && flags < 16 && slices.Contains(firsts, kind*16+flags)
				switch got := encode(q); {
				case !can:
					refuses(t, "flags", q)
				case kind == p.Kind && (flags/2%4 > 0) == (p.Flags/2%4 > 0):
					is(t, "of its kind", got.err, ok)
					answers(t, "of its kind", got.b, nexts{q, len(got.b), ok})
				}
			}
		}
	}
}

// field: one of a packet, and how it is set to something.
type field struct {
	name string
	set  func(p *api.Packet)
}

var fields = []field{
	{"Id", func(p *api.Packet) { p.Id = 1 }},
	{"Id", func(p *api.Packet) { p.Id = 1 << 16 }},
	{"Code", func(p *api.Packet) { p.Code = 1 }},
	{"Code", func(p *api.Packet) { p.Code = 2 }},
	{"Code", func(p *api.Packet) { p.Code = 256 }},
	{"Name", func(p *api.Packet) { p.Name = "x" }},
	{"Text", func(p *api.Packet) { p.Text = "x" }},
	{"Keep", func(p *api.Packet) { p.Keep = 1 }},
	{"Keep", func(p *api.Packet) { p.Keep = 1 << 16 }},
	{"Will", func(p *api.Packet) { p.Will = true }},
	{"Topic", func(p *api.Packet) { p.Topic = "x" }},
	{"Clean", func(p *api.Packet) { p.Clean = true }},
	{"Names", func(p *api.Packet) { p.Names = []string{""} }},
	{"Names", func(p *api.Packet) { p.Names = []string{"x", "y"} }},
	{"Codes", func(p *api.Packet) { p.Codes = []int{0} }},
	{"Codes", func(p *api.Packet) { p.Codes = []int{0, 1} }},
}

// has: the fields that a packet of a kind has.
func has(p api.Packet) []string {
	switch p.Kind {
	case connect:
		return []string{"Code", "Keep", "Name", "Will", "Topic", "Text", "Clean"}
	case connack:
		return []string{"Keep", "Code"}
	case publish:
		if p.Flags/2%4 > 0 {
			return []string{"Topic", "Id", "Text"}
		}
		return []string{"Topic", "Text"}
	case puback, pubrec, pubrel, pubcomp, unsuback:
		return []string{"Id"}
	case subscribe:
		return []string{"Id", "Names", "Codes"}
	case suback:
		return []string{"Id", "Codes"}
	case unsubscribe:
		return []string{"Id", "Names"}
	}
	return nil
}

func TestP20_1_AllElseIsZero(t *testing.T) {
	count := 0
	for _, p := range samples() {
		for _, f := range fields {
			if q := p; !slices.Contains(has(p), f.name) {
				f.set(&q)
				refuses(t, f.name+" of a kind that hasn't it", q)
				count++
			}
		}
	}
	if count < 100 {
		t.Errorf("how many: %d", count)
	}
	refuses(t, "nothing at all", api.Packet{})
}

// Lists of no entry are as good as none.
func TestP20_1_EmptyLists(t *testing.T) {
	goes(t, "Puback", "\x40\x02\x00\x05", api.Packet{Kind: puback, Id: 5, Names: []string{}, Codes: []int{}})
	goes(t, "Suback", "\x90\x03\x00\x05\x02", api.Packet{Kind: suback, Id: 5, Names: []string{}, Codes: []int{2}})
	goes(t, "Unsubscribe", "\xa2\x04\x00\x05\x00\x00", api.Packet{Kind: unsubscribe, Flags: 2, Id: 5, Names: []string{""}, Codes: []int{}})
}

// ids: numbers that may stand where an id stands, and whether they are one.
var ids = map[int]bool{math.MinInt: false, -65535: false, -1: false, 0: false, 1: true, 255: true, 256: true, 65280: true, 65535: true, 65536: false, 65537: false, 1 << 32: false, 1<<32 + 1: false, math.MaxInt: false}

func TestP20_1_IdsWhereverOneStands(t *testing.T) {
	for s, p := range samples() {
		if !slices.Contains(has(p), "Id") {
			continue
		}
		from := 2
		if p.Kind == publish {
			from += len(text(p.Topic))
		}
		for id, is := range ids {
			q := p
			if q.Id = id; !is {
				refuses(t, "id", q)
				continue
			}
			goes(t, "id", s[:from]+number(id)+s[from+2:], q)
		}
		told(t, "id 0", s[:from]+"\x00\x00"+s[from+2:], len(s))
	}
}

// Too few bytes are none that are missing, if the length says that they are all; too many are none either.
func TestP20_1_TooFewBytesAndTooMany(t *testing.T) {
	for s, p := range samples() {
		own := s[2:]
		for n := range own {
			// A Publish may end anywhere behind its id, a list behind an entry.
			if want := next(packet(int(s[0]), own[:n])); want.err == ok && p.Kind != publish && p.Kind != subscribe && p.Kind != suback && p.Kind != unsubscribe {
				t.Errorf("%q is %v", own[:n], want)
			} else if want.err != ok {
				isnt(t, "too few", int(s[0]), own[:n])
			}
		}
		for _, more := range []string{"\x00", "x", "\x00\x00", "\x00\x01", "\x00\x01a\x00\x01a"} {
			if got := next(packet(int(s[0]), own+more)); p.Kind != publish && p.Kind != subscribe && p.Kind != suback && p.Kind != unsubscribe {
				isnt(t, "too many", int(s[0]), own+more)
			} else if p.Kind == publish {
				is(t, "a Publish takes all", got.p.Text, p.Text+more)
			}
		}
	}
}

func TestP20_1_Acks(t *testing.T) {
	for _, first := range []int{0x40, 0x50, 0x62, 0x70, 0xb0} {
		for _, own := range []string{"", "\x00", "\x01", "\x00\x00", "\x00\x01\x00", "\x00\x00\x01", "\x01\x01\x01\x01", "\xff\xff\xff"} {
			isnt(t, "an id", first, own)
		}
	}
	for _, first := range []int{0xc0, 0xd0, 0xe0} {
		for _, own := range []string{"\x00", "x", "\x00\x01"} {
			isnt(t, "nothing", first, own)
		}
	}
}
