package mpacket_test

import (
	"fmt"
	"math"
	"testing"

	"trivet/api"
)

// head: what a Connect has ahead of its texts.
func head(code, keep int) string {
	return "\x00\x04MQTT\x04" + char(code) + number(keep)
}

// codeCan: whether a Connect's Code can be, as the chapter counts its bits.
func codeCan(code int) bool {
	bit := func(n int) bool { return code/n%2 == 1 }
	if bit(1) || bit(64) || bit(128) {
		return false
	}
	if bit(8) && bit(16) {
		return false
	}
	if !bit(4) && (bit(8) || bit(16) || bit(32)) {
		return false
	}
	return true
}

func TestP20_1_EachBitOfAConnectsCode(t *testing.T) {
	count := 0
	for code := range 256 {
		will, clean := code/4%2 == 1, code/2%2 == 1
		p := api.Packet{Kind: connect, Code: code, Keep: 60, Name: "me", Will: will, Clean: clean}
		own := head(code, 60) + text("me")
		if will {
			p.Topic, p.Text = "w", "bye"
			own += text("w") + text("bye")
		}
		if !codeCan(code) {
			isnt(t, fmt.Sprint("code ", code), 0x10, own)
			isnt(t, fmt.Sprint("code ", code), 0x10, head(code, 60)+text("me"))
			isnt(t, fmt.Sprint("code ", code), 0x10, head(code, 60)+text("me")+text("w")+text("bye"))
			refuses(t, "code", p)
			continue
		}
		count++
		goes(t, fmt.Sprint("code ", code), packet(0x10, own), p)
		// Will and Clean say nothing else than Code.
		q := p
		q.Will = !q.Will
		refuses(t, "Will", q)
		q.Topic, q.Text = "", ""
		refuses(t, "Will", q)
		q = p
		q.Clean = !q.Clean
		refuses(t, "Clean", q)
	}
	is(t, "how many codes", count, 14)
	for _, code := range []int{math.MinInt, -256, -254, -2, 256, 258, 262, 1 << 32, math.MaxInt} {
		refuses(t, "code", api.Packet{Kind: connect, Code: code, Name: "me"})
		refuses(t, "code", api.Packet{Kind: connect, Code: code, Name: "me", Clean: true})
		refuses(t, "code", api.Packet{Kind: connect, Code: code, Name: "me", Clean: true, Will: true})
	}
}

func TestP20_1_AConnectsProtocol(t *testing.T) {
	rest := "\x02\x00\x00" + text("me")
	reads(t, "as it is", packet(0x10, text("MQTT")+"\x04"+rest), api.Packet{Kind: connect, Code: 2, Clean: true, Name: "me"})
	for _, name := range []string{"", "M", "MQT", "mqtt", "MQTt", "MQTTT", "MQTT ", "MQIsdp", "NQTT", "MRTT", "MQUT", "TTQM", "\x00\x00\x00\x00", "MQTT\x04"} {
		isnt(t, "a protocol's text", 0x10, text(name)+"\x04"+rest)
	}
	for level := range 256 {
		if level != 4 {
			isnt(t, "a level", 0x10, text("MQTT")+char(level)+rest)
		}
	}
	isnt(t, "a length that isn't the text's", 0x10, "\x00\x03MQTT\x04"+rest)
	isnt(t, "a length that isn't the text's", 0x10, "\x00\x05MQTT\x04"+rest)
	isnt(t, "a length that isn't the text's", 0x10, "\x04\x00MQTT\x04"+rest)
	isnt(t, "a length that isn't the text's", 0x10, "\xff\xffMQTT\x04"+rest)
}

func TestP20_1_AConnectsKeepAndName(t *testing.T) {
	for _, keep := range []int{0, 1, 255, 256, 65280, 65535} {
		goes(t, "keep", packet(0x10, head(0, keep)+text("me")), api.Packet{Kind: connect, Keep: keep, Name: "me"})
	}
	for _, keep := range []int{math.MinInt, -65536, -1, 65536, 65537, 1 << 32, math.MaxInt} {
		refuses(t, "keep", api.Packet{Kind: connect, Keep: keep, Name: "me"})
	}
	for _, name := range []string{"", "a", "not a name \x00\xff\xe9", a(127), a(128), a(255), a(256), a(5000)} {
		goes(t, "name", packet(0x10, head(2, 1)+text(name)), api.Packet{Kind: connect, Code: 2, Clean: true, Keep: 1, Name: name})
	}
}

func TestP20_1_AConnectsWill(t *testing.T) {
	for _, topic := range []string{"", "w", "a/+/#", "\x00\xff", a(255), a(256), a(9000)} {
		for _, size := range []int{0, 1, 255, 256, maxBody - 1, maxBody} {
			p := api.Packet{Kind: connect, Code: 0x34, Will: true, Name: "me", Topic: topic, Text: a(size)}
			goes(t, "will", packet(0x10, head(0x34, 0)+text("me")+text(topic)+text(a(size))), p)
		}
		for _, size := range []int{maxBody + 1, maxBody + 2, 2 * maxBody, 6000} {
			refuses(t, "will", api.Packet{Kind: connect, Code: 0x34, Will: true, Name: "me", Topic: topic, Text: a(size)})
			isnt(t, "will", 0x10, head(0x34, 0)+text("me")+text(topic)+text(a(size)))
		}
	}
	// The texts are there with Will, and without it they aren't.
	refuses(t, "Topic without Will", api.Packet{Kind: connect, Name: "me", Topic: "w"})
	refuses(t, "Text without Will", api.Packet{Kind: connect, Name: "me", Text: "w"})
	refuses(t, "both without Will", api.Packet{Kind: connect, Name: "me", Topic: "w", Text: "w"})
	isnt(t, "texts without Will", 0x10, head(0, 0)+text("me")+text("w")+text("w"))
	isnt(t, "texts without Will", 0x10, head(0, 0)+text("me")+text("")+text(""))
	isnt(t, "no texts with Will", 0x10, head(4, 0)+text("me"))
	isnt(t, "one text with Will", 0x10, head(4, 0)+text("me")+text("w"))
	isnt(t, "three texts with Will", 0x10, head(4, 0)+text("me")+text("w")+text("w")+text(""))
	goes(t, "empty texts with Will", packet(0x10, head(4, 0)+text("")+text("")+text("")), api.Packet{Kind: connect, Code: 4, Will: true})
}

func TestP20_1_AConnacksBytes(t *testing.T) {
	for keep := range 256 {
		for _, code := range []int{0, 1, 4, 5, 6, 127, 128, 255} {
			if keep <= 1 && code <= 5 {
				goes(t, "Connack", packet(0x20, char(keep)+char(code)), api.Packet{Kind: connack, Keep: keep, Code: code})
			} else {
				isnt(t, "Connack", 0x20, char(keep)+char(code))
				refuses(t, "Connack", api.Packet{Kind: connack, Keep: keep, Code: code})
			}
		}
	}
	for _, n := range []int{math.MinInt, -256, -1, 256, 257, 1 << 32, math.MaxInt} {
		refuses(t, "Keep", api.Packet{Kind: connack, Keep: n})
		refuses(t, "Code", api.Packet{Kind: connack, Code: n})
	}
	for _, own := range []string{"", "\x00", "\x00\x00\x00", "\x01\x00\x00\x00"} {
		isnt(t, "Connack", 0x20, own)
	}
}
