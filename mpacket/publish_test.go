package mpacket_test

import (
	"fmt"
	"testing"

	"trivet/api"
)

func TestP20_1_TheSixteenFlagsOfAPublish(t *testing.T) {
	// QoS 0, 1 and 2, each alone and retained, and those above 0 again.
	can := map[int]int{0: 0, 1: 0, 2: 1, 3: 1, 4: 2, 5: 2, 10: 1, 11: 1, 12: 2, 13: 2}
	for flags := range 16 {
		p := api.Packet{Kind: publish, Flags: flags, Topic: "a/b", Text: "hi"}
		withId := p
		withId.Id = 258
		qos, is := can[flags]
		switch {
		case !is:
			told(t, fmt.Sprint("flags ", flags), packet(0x30+flags, text("a/b")+"\x01\x02hi"), 1)
			refuses(t, "flags", p)
			refuses(t, "flags", withId)
		case qos == 0:
			goes(t, fmt.Sprint("flags ", flags), packet(0x30+flags, text("a/b")+"hi"), p)
			refuses(t, "an id of QoS 0", withId)
		default:
			goes(t, fmt.Sprint("flags ", flags), packet(0x30+flags, text("a/b")+"\x01\x02hi"), withId)
			refuses(t, "no id of QoS 1", p)
		}
	}
}

func TestP20_1_APublishesTopicAndText(t *testing.T) {
	for _, flags := range []int{0, 1, 2, 13} {
		id, own := 0, ""
		if flags > 1 {
			id, own = 65535, "\xff\xff"
		}
		for _, topic := range []string{"", "a", "/", "+", "a/#", "\x00\xff", a(255), a(256), a(10000)} {
			for _, size := range []int{0, 1, 2, 255, 256, maxBody - 1, maxBody} {
				p := api.Packet{Kind: publish, Flags: flags, Id: id, Topic: topic, Text: a(size)}
				goes(t, "Publish", packet(0x30+flags, text(topic)+own+a(size)), p)
			}
			for _, size := range []int{maxBody + 1, maxBody + 2, 2 * maxBody, 5000} {
				refuses(t, "Publish", api.Packet{Kind: publish, Flags: flags, Id: id, Topic: topic, Text: a(size)})
				isnt(t, "Publish", 0x30+flags, text(topic)+own+a(size))
			}
		}
	}
	goes(t, "bytes of all kinds", packet(0x30, text("\x00\x01\xff")+"\x00\xff\x80\xc3"), api.Packet{Kind: publish, Topic: "\x00\x01\xff", Text: "\x00\xff\x80\xc3"})
}

func TestP20_1_APublishThatIsTooShort(t *testing.T) {
	for _, own := range []string{"", "\x00", "\x00\x01", "\x00\x02a", "\x01\x00a", "\xff\xffabc"} {
		isnt(t, "no topic", 0x30, own)
		isnt(t, "no topic", 0x32, own)
	}
	for _, own := range []string{"\x00\x00", "\x00\x00\x01", "\x00\x01a", "\x00\x01a\x01"} {
		isnt(t, "no id", 0x32, own)
		isnt(t, "no id", 0x3d, own)
	}
	isnt(t, "id 0", 0x34, "\x00\x01a\x00\x00hi")
}
