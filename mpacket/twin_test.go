package mpacket_test

import (
	"bytes"
	"encoding/binary"
	"fmt"
	"io"
	"math/rand"
	"slices"
	"strings"
	"testing"

	"trivet/api"
)

// A twin of the package: it reads by the library's means, field by field as the table's rows say them, and looks at a packet's fields ahead of writing it.

// row: what a packet has behind its length, a letter a field: M the protocol, c Connect's Code, k a number, i an id, N, T and X a text, 1 and 5 a byte up to that, r the rest; behind a star what comes up to 32 times.
func row(p api.Packet) string {
	switch p.Kind {
	case connect:
		if p.Code/4%2 == 1 {
			return "M c k N T X"
		}
		return "M c k N"
	case connack:
		return "1 5"
	case publish:
		if p.Flags/2%4 > 0 {
			return "T i r"
		}
		return "T r"
	case subscribe:
		return "i *S"
	case suback:
		return "i *A"
	case unsubscribe:
		return "i *U"
	case pingreq, pingresp, disconnect:
		return ""
	}
	return "i"
}

// twinNext: what Next answers.
func twinNext(s string) nexts {
	if s == "" {
		return nexts{err: errMore}
	}
	if !slices.Contains(firsts, int(s[0])) {
		return nexts{err: errProto}
	}
	rest := []byte(s[1:])
	n, size := binary.Uvarint(rest[:min(3, len(rest))])
	if size == 0 {
		if len(rest) >= 3 {
			return nexts{err: errProto}
		}
		return nexts{err: errMore}
	}
	if n > maxFrame || len(binary.AppendUvarint(nil, n)) != size {
		return nexts{err: errProto}
	}
	if len(rest) < size+int(n) {
		return nexts{err: errMore}
	}
	p := api.Packet{Kind: int(s[0] / 16), Flags: int(s[0] % 16)}
	own := bytes.NewReader(rest[size : size+int(n)])
	if !twinFields(own, &p) || own.Len() > 0 {
		return nexts{err: errProto}
	}
	return nexts{p, 1 + size + int(n), ok}
}

// twinFields reads a packet's fields; whether they can be.
func twinFields(r *bytes.Reader, p *api.Packet) bool {
	protocol := ""
	for at := 0; ; at++ {
		// Looked at anew: a Code tells what is behind it.
		fields := strings.Fields(row(*p))
		if at >= len(fields) {
			return true
		}
		is := true
		switch f := fields[at]; f {
		case "M":
			is = twinText(r, &protocol) && protocol == "MQTT" && twinByte(r) == 4
		case "c":
			p.Code = twinByte(r)
			p.Clean, p.Will = p.Code/2%2 == 1, p.Code/4%2 == 1
			is = p.Code >= 0 && codeCan(p.Code)
		case "k":
			is = twinNumber(r, &p.Keep)
		case "i":
			is = twinNumber(r, &p.Id) && p.Id > 0
		case "N":
			is = twinText(r, &p.Name)
		case "T":
			is = twinText(r, &p.Topic)
		case "X":
			is = twinText(r, &p.Text) && len(p.Text) <= maxBody
		case "1":
			p.Keep = twinByte(r)
			is = p.Keep == 0 || p.Keep == 1
		case "5":
			p.Code = twinByte(r)
			is = 0 <= p.Code && p.Code <= 5
		case "r":
			b, _ := io.ReadAll(r)
			p.Text = string(b)
			is = len(b) <= maxBody
		default:
			is = twinList(r, p, f)
		}
		if !is {
			return false
		}
	}
}

// twinList reads a list; whether it can be.
func twinList(r *bytes.Reader, p *api.Packet, kind string) bool {
	count := 0
	for ; r.Len() > 0; count++ {
		name := ""
		if kind != "*A" {
			if !twinText(r, &name) {
				return false
			}
			p.Names = append(p.Names, name)
		}
		if kind != "*U" {
			code := twinByte(r)
			if !strings.Contains(map[string]string{"*S": " 0 1 2 ", "*A": " 0 1 2 128 "}[kind], fmt.Sprint(" ", code, " ")) {
				return false
			}
			p.Codes = append(p.Codes, code)
		}
	}
	return 1 <= count && count <= 32
}

// twinByte: the next byte; -1: there is none.
func twinByte(r *bytes.Reader) int {
	c, err := r.ReadByte()
	if err != nil {
		return -1
	}
	return int(c)
}

func twinNumber(r *bytes.Reader, n *int) bool {
	var x uint16
	err := binary.Read(r, binary.BigEndian, &x)
	*n = int(x)
	return err == nil
}

func twinText(r *bytes.Reader, s *string) bool {
	n := 0
	if !twinNumber(r, &n) {
		return false
	}
	b := make([]byte, n)
	_, err := io.ReadFull(r, b)
	*s = string(b)
	return err == nil
}

// twinEncode: what Encode answers.
func twinEncode(p api.Packet) encodes {
	no := encodes{err: errArg}
	if p.Kind < 0 || p.Kind > 15 || p.Flags < 0 || p.Flags > 15 || !slices.Contains(firsts, p.Kind*16+p.Flags) || !twinZeros(p) {
		return no
	}
	own := ""
	for _, f := range strings.Fields(row(p)) {
		switch f {
		case "M":
			own += "\x00\x04MQTT\x04"
		case "c":
			if p.Code < 0 || p.Code > 255 || !codeCan(p.Code) || p.Clean != (p.Code/2%2 == 1) || p.Will != (p.Code/4%2 == 1) {
				return no
			}
			own += char(p.Code)
		case "k":
			if p.Keep < 0 || p.Keep > 65535 {
				return no
			}
			own += number(p.Keep)
		case "i":
			if p.Id < 1 || p.Id > 65535 {
				return no
			}
			own += number(p.Id)
		case "N":
			own += text(p.Name)
		case "T":
			own += text(p.Topic)
		case "X":
			own += text(p.Text)
		case "r":
			own += p.Text
		case "1":
			if p.Keep < 0 || p.Keep > 1 {
				return no
			}
			own += char(p.Keep)
		case "5":
			if p.Code < 0 || p.Code > 5 {
				return no
			}
			own += char(p.Code)
		default:
			list, is := twinEntries(p, f)
			if !is {
				return no
			}
			own += list
		}
	}
	if len(own) > maxFrame || len(p.Text) > maxBody {
		return no
	}
	return encodes{packet(p.Kind*16+p.Flags, own), ok}
}

// twinEntries: the bytes of a packet's lists; whether they can be.
func twinEntries(p api.Packet, kind string) (string, bool) {
	n := max(len(p.Names), len(p.Codes))
	if n < 1 || n > 32 || kind != "*A" && len(p.Names) != n || kind != "*U" && len(p.Codes) != n {
		return "", false
	}
	own := ""
	for at := range n {
		if kind != "*A" {
			own += text(p.Names[at])
		}
		if kind != "*U" {
			if c := p.Codes[at]; c != 0 && c != 1 && c != 2 && (c != 128 || kind != "*A") {
				return "", false
			}
			own += char(p.Codes[at])
		}
	}
	return own, true
}

// twinZeros: whether all that a kind hasn't is zero.
func twinZeros(p api.Packet) bool {
	q := api.Packet{Kind: p.Kind, Flags: p.Flags}
	for _, name := range has(p) {
		switch name {
		case "Id":
			q.Id = p.Id
		case "Code":
			q.Code = p.Code
		case "Name":
			q.Name = p.Name
		case "Keep":
			q.Keep = p.Keep
		case "Will":
			q.Will = p.Will
		case "Clean":
			q.Clean = p.Clean
		case "Names":
			q.Names = p.Names
		case "Codes":
			q.Codes = p.Codes
		case "Topic":
			if p.Kind == publish || p.Will {
				q.Topic = p.Topic
			}
		case "Text":
			if p.Kind == publish || p.Will {
				q.Text = p.Text
			}
		}
	}
	return alike(p, q)
}

// someText: a text of at most so many bytes.
func someText(r *rand.Rand, most int) string {
	b := make([]byte, one(r, 0, 1, r.Intn(1+min(most, 10)), r.Intn(1+most)))
	r.Read(b)
	return string(b)
}

// somePacket: a packet that can be, with texts of at most so many bytes.
func somePacket(r *rand.Rand, most int) api.Packet {
	first := one(r, firsts...)
	p := api.Packet{Kind: first / 16, Flags: first % 16}
	entries := one(r, 1, 2, 3, 32)
	for _, name := range has(p) {
		switch name {
		case "Id":
			p.Id = one(r, 1, 255, 256, 65535, 1+r.Intn(65535))
		case "Code":
			p.Code = one(r, 0, 1, 2, 5)
		case "Keep":
			p.Keep = r.Intn(2)
		case "Name":
			p.Name = someText(r, most)
		case "Topic":
			p.Topic = someText(r, most)
		case "Text":
			p.Text = someText(r, min(most, maxBody))
		case "Names":
			for range entries {
				p.Names = append(p.Names, someText(r, min(most, 400)))
			}
		case "Codes":
			for range entries {
				p.Codes = append(p.Codes, r.Intn(3))
			}
		}
	}
	switch p.Kind {
	case connect:
		p.Keep = one(r, 0, 60, r.Intn(65536), 65535)
		p.Code = one(r, 0, 2, 4, 6, 12, 14, 20, 22, 36, 38, 44, 46, 52, 54)
		p.Clean, p.Will = p.Code/2%2 == 1, p.Code/4%2 == 1
		if !p.Will {
			p.Topic, p.Text = "", ""
		}
	case suback:
		for at := range p.Codes {
			p.Codes[at] = one(r, 0, 1, 2, 128)
		}
	}
	return p
}

// anyPacket: a packet that may be one that can't be.
func anyPacket(r *rand.Rand) api.Packet {
	p := somePacket(r, one(r, 3, 40, 1000, 7000))
	for range one(r, 0, 1, 1, 2) {
		switch r.Intn(12) {
		case 0:
			p.Kind += r.Intn(5) - 2
		case 1:
			p.Flags ^= 1 << r.Intn(5)
		case 2:
			p.Id = one(r, 0, 1, 65535, 65536, -1)
		case 3:
			p.Code ^= 1 << r.Intn(9)
		case 4:
			p.Code = one(r, -1, 0, 5, 6, 255, 256)
		case 5:
			p.Keep = one(r, -1, 0, 1, 2, 65535, 65536)
		case 6:
			p.Will, p.Code = !p.Will, p.Code^4
		case 7:
			p.Clean, p.Code = !p.Clean, p.Code^one(r, 0, 2)
		case 8:
			p.Text += a(one(r, 1, 1000, 1024-min(1024, len(p.Text)), 1025))
		case 9:
			p.Topic += a(one(r, 1, 10000, 16000, 17000))
		case 10:
			p.Names = append(p.Names, times(one(r, 1, 32-min(32, len(p.Names)), 40), someText(r, 10))...)
		case 11:
			p.Codes = append(p.Codes, times(one(r, 1, 32-min(32, len(p.Codes)), 40), one(r, 0, 2, 3, 128))...)
		}
	}
	return p
}

// spoilt: bytes that are a little other ones.
func spoilt(r *rand.Rand, s string) string {
	b := []byte(s)
	for range 1 + r.Intn(3) {
		if len(b) == 0 {
			return string(b)
		}
		// What stands ahead tells most, so it is spoilt most.
		at := one(r, r.Intn(len(b)), r.Intn(min(20, len(b))), len(b)-1)
		switch r.Intn(7) {
		case 0:
			b[at] ^= 1 << r.Intn(8)
		case 1:
			b[at] = byte(r.Intn(256))
		case 2:
			b[at] += byte(r.Intn(5) - 2)
		case 3:
			b = slices.Delete(b, at, at+1)
		case 4:
			b = slices.Insert(b, at, byte(r.Intn(256)))
		case 5:
			b = b[:at]
		case 6:
			// So many bytes as the length says.
			if len(b) > 1 && len(b) < 130 {
				b[1] = byte(len(b) - 2)
			}
		}
	}
	return string(b)
}

func TestP20_1_PacketsOfAllKinds(t *testing.T) {
	t.Parallel()
	r := rand.New(rand.NewSource(201))
	count := make(map[plain]int)
	for range 60000 {
		p := anyPacket(r)
		want := twinEncode(p)
		got := encode(p)
		is(t, fmt.Sprintf("Encode of %.300v", p), got, want)
		if want.err == ok {
			answers(t, "there and back", got.b, nexts{p, len(got.b), ok})
		}
		count[plain{kind: p.Kind, code: int(want.err)}]++
	}
	for kind := 1; kind <= 14; kind++ {
		if count[plain{kind: kind, code: 0}] < 500 || count[plain{kind: kind, code: 1}] < 500 {
			t.Errorf("kind %d: how often it can be and can't: %d, %d", kind, count[plain{kind: kind}], count[plain{kind: kind, code: 1}])
		}
	}
}

func TestP20_1_BytesOfAllKinds(t *testing.T) {
	t.Parallel()
	r := rand.New(rand.NewSource(202))
	count := make(map[plain]int)
	for range 150000 {
		s := spoilt(r, twinEncode(somePacket(r, one(r, 3, 20, 120))).b) + one(r, "", "", char(r.Intn(256)), a(40))
		want := twinNext(s)
		answers(t, "spoilt", s, want)
		if want.err == ok {
			// These bytes and no others are the packet's.
			is(t, "Encode of what Next answered", encode(want.p), encodes{s[:want.size], ok})
		}
		if s != "" {
			count[plain{kind: int(s[0] / 16), code: int(want.err)}]++
		}
	}
	for kind := 1; kind <= 14; kind++ {
		for _, err := range []api.Errno{ok, errMore, errProto} {
			if count[plain{kind: kind, code: int(err)}] < 200 {
				t.Errorf("kind %d, %d: how often: %d", kind, err, count[plain{kind: kind, code: int(err)}])
			}
		}
	}
}

// All bytes of a few, behind each first byte.
func TestP20_1_AllShortBytes(t *testing.T) {
	t.Parallel()
	few := []string{"\x00", "\x01", "\x02", "\x03", "\x80", "\xff"}
	var all func(s string, more int)
	all = func(s string, more int) {
		answers(t, "short", s, twinNext(s))
		if more > 0 {
			for _, c := range few {
				all(s+c, more-1)
			}
		}
	}
	for _, first := range []int{0x20, 0x30, 0x32, 0x40, 0x82, 0x90, 0xa2, 0xc0} {
		for size := range 8 {
			all(char(first)+char(size), 5)
		}
	}
}
