package mpacket_test

import (
	"fmt"
	"math"
	"strings"
	"testing"

	"trivet/api"
)

// entries: a list's bytes: so many names, each with what stands behind it.
func entries(n int, one string) string {
	return "\x00\x07" + strings.Repeat(one, n)
}

func TestP20_1_HowManyEntries(t *testing.T) {
	for n := range 70 {
		sub := api.Packet{Kind: subscribe, Flags: 2, Id: 7, Names: times(n, "a"), Codes: times(n, 1)}
		ack := api.Packet{Kind: suback, Id: 7, Codes: times(n, 128)}
		un := api.Packet{Kind: unsubscribe, Flags: 2, Id: 7, Names: times(n, "a")}
		if 1 <= n && n <= 32 {
			goes(t, fmt.Sprint(n, " entries"), packet(0x82, entries(n, "\x00\x01a\x01")), sub)
			goes(t, fmt.Sprint(n, " entries"), packet(0x90, entries(n, "\x80")), ack)
			goes(t, fmt.Sprint(n, " entries"), packet(0xa2, entries(n, "\x00\x01a")), un)
			continue
		}
		isnt(t, fmt.Sprint(n, " entries"), 0x82, entries(n, "\x00\x01a\x01"))
		isnt(t, fmt.Sprint(n, " entries"), 0x90, entries(n, "\x80"))
		isnt(t, fmt.Sprint(n, " entries"), 0xa2, entries(n, "\x00\x01a"))
		refuses(t, "entries", sub)
		refuses(t, "entries", ack)
		refuses(t, "entries", un)
	}
	for _, n := range []int{256, 257, 5000, 100000} {
		refuses(t, "entries", api.Packet{Kind: subscribe, Flags: 2, Id: 7, Names: times(n, ""), Codes: times(n, 0)})
		refuses(t, "entries", api.Packet{Kind: suback, Id: 7, Codes: times(n, 0)})
		refuses(t, "entries", api.Packet{Kind: unsubscribe, Flags: 2, Id: 7, Names: times(n, "")})
	}
}

func TestP20_1_AsManyNamesAsCodes(t *testing.T) {
	for names := range 35 {
		for codes := range 35 {
			p := api.Packet{Kind: subscribe, Flags: 2, Id: 7, Names: times(names, "a"), Codes: times(codes, 2)}
			if names == codes && 1 <= names && names <= 32 {
				is(t, "as many", encode(p), encodes{packet(0x82, entries(names, "\x00\x01a\x02")), ok})
			} else {
				refuses(t, "not as many", p)
			}
		}
	}
	// What stands there of one list too many may look like one of the other.
	refuses(t, "no code", api.Packet{Kind: subscribe, Flags: 2, Id: 7, Names: []string{"\x00"}})
	refuses(t, "no code", api.Packet{Kind: subscribe, Flags: 2, Id: 7, Names: []string{"a", ""}, Codes: []int{0}})
	refuses(t, "no name", api.Packet{Kind: subscribe, Flags: 2, Id: 7, Names: []string{"a"}, Codes: []int{0, 0, 0, 0}})
	refuses(t, "no name", api.Packet{Kind: subscribe, Flags: 2, Id: 7, Codes: []int{0, 0, 1}})
	isnt(t, "no code", 0x82, "\x00\x07\x00\x01a")
	isnt(t, "no code", 0x82, "\x00\x07\x00\x01a\x00\x00\x01b")
	isnt(t, "half a name", 0x82, "\x00\x07\x00\x01a\x00\x00")
	isnt(t, "half a name", 0xa2, "\x00\x07\x00\x01a\x00\x02b")
	isnt(t, "half a name", 0xa2, "\x00\x07\x00\x01a\x00")
}

func TestP20_1_Codes(t *testing.T) {
	for code := range 256 {
		sub := api.Packet{Kind: subscribe, Flags: 2, Id: 7, Names: []string{"a"}, Codes: []int{code}}
		ack := api.Packet{Kind: suback, Id: 7, Codes: []int{code}}
		if code <= 2 {
			goes(t, "code", packet(0x82, entries(1, "\x00\x01a"+char(code))), sub)
		} else {
			isnt(t, "code", 0x82, entries(1, "\x00\x01a"+char(code)))
			refuses(t, "code", sub)
		}
		if code <= 2 || code == 128 {
			goes(t, "code", packet(0x90, entries(1, char(code))), ack)
		} else {
			isnt(t, "code", 0x90, entries(1, char(code)))
			refuses(t, "code", ack)
		}
	}
	for _, code := range []int{math.MinInt, -256, -128, -1, 256, 257, 384, 1 << 32, math.MaxInt} {
		refuses(t, "code", api.Packet{Kind: subscribe, Flags: 2, Id: 7, Names: []string{"a"}, Codes: []int{code}})
		refuses(t, "code", api.Packet{Kind: suback, Id: 7, Codes: []int{code}})
	}
}

// Each entry is looked at, wherever it stands.
func TestP20_1_OneCodeAmongOthers(t *testing.T) {
	for _, n := range []int{1, 2, 3, 32} {
		for at := range n {
			for _, code := range []int{1, 3, 127, 128, 129, 255} {
				codes := times(n, 2)
				codes[at] = code
				sub := api.Packet{Kind: subscribe, Flags: 2, Id: 7, Names: times(n, "a"), Codes: codes}
				ack := api.Packet{Kind: suback, Id: 7, Codes: codes}
				own, acked := "\x00\x07", "\x00\x07"
				for _, c := range codes {
					own, acked = own+"\x00\x01a"+char(c), acked+char(c)
				}
				if code == 1 {
					goes(t, "code", packet(0x82, own), sub)
				} else {
					isnt(t, "code", 0x82, own)
					refuses(t, "code", sub)
				}
				if code == 1 || code == 128 {
					goes(t, "code", packet(0x90, acked), ack)
				} else {
					isnt(t, "code", 0x90, acked)
					refuses(t, "code", ack)
				}
			}
		}
	}
}

func TestP20_1_NamesOfAllKinds(t *testing.T) {
	names := []string{"", "a", "a/+/#", "", "\x00\xff", a(255), a(256), a(5000), "z"}
	sub := api.Packet{Kind: subscribe, Flags: 2, Id: 65535}
	un := api.Packet{Kind: unsubscribe, Flags: 2, Id: 65535, Names: names}
	own, unOwn := "\xff\xff", "\xff\xff"
	for at, name := range names {
		sub.Names, sub.Codes = append(sub.Names, name), append(sub.Codes, at%3)
		own, unOwn = own+text(name)+char(at%3), unOwn+text(name)
	}
	goes(t, "Subscribe", packet(0x82, own), sub)
	goes(t, "Unsubscribe", packet(0xa2, unOwn), un)
}
