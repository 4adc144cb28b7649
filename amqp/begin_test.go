package amqp_test

import (
	"fmt"
	"strings"
	"testing"

	"trivet/amqp"
	"trivet/api"
)

func TestP17_1_New(t *testing.T) {
	is(t, "New", amqp.New(), api.Amqp{Stage: 0, Window: 32, Want: -1})
}

// started: connection.start's frame, byte by byte.
var started = raw("01 0000 0000001c 000a 000a 00 09 00000000 00000005 504c41494e 00000005 656e5f5553 ce")

func TestP17_1_TheFirstEightBytes(t *testing.T) {
	is(t, "connection.start", meth(0, "connection.start", 0, 9, nil, "PLAIN", "en_US"), started)
	for at := range len(greeting) {
		waits(t, fmt.Sprint("the first ", at), fresh(), greeting[:at])
	}
	leads(t, "all eight", fresh(), greeting, staged(stStart), say(started))
	// Those that came ahead of the last one wait in Rest.
	s := fresh()
	s.Rest = greeting[:7]
	is(t, "the eighth one", next(s, greeting[7:]+"more"), step{changed(staged(stStart), func(s *api.Amqp) { s.Rest = "more" }), []api.Act{say(started)}, true})
}

func TestP17_1_AnotherProtocol(t *testing.T) {
	want := step{downed(fresh()), []api.Act{say(greeting), end()}, true}
	for _, s := range []string{"GET /", "G", "AMQP\x01", "AMQP\x00\x01", "AMQP\x00\x00\x09\x00", "AMQP\x03\x01\x00\x00", "amqp", "CONNECT\naccept-version:1.2\n\n\x00", "\x10\x0e\x00\x04MQTT", strings.Repeat("A", 1<<16), " " + greeting, "\x00" + greeting, greeting[1:]} {
		is(t, s[:min(9, len(s))], next(fresh(), s), want)
	}
	for at := range len(greeting) {
		for c := range 256 {
			if byte(c) == greeting[at] {
				continue
			}
			gone := greeting[:at] + string([]byte{byte(c)})
			for _, more := range []string{"", greeting[at+1:], "more"} {
				is(t, fmt.Sprintf("at %d the byte %d", at, c), next(fresh(), gone+more), want)
			}
		}
	}
}

func TestP17_1_AHandshakeByteByByte(t *testing.T) {
	leads(t, "start-ok", staged(stStart), raw("01 0000 0000001d 000a 000b 00000000 05 504c41494e 00000005 0067006700 05 656e5f5553 ce"), staged(stTune), say(raw("01 0000 0000000c 000a 001e 0001 00004000 0000 ce")))
	leads(t, "tune-ok", staged(stTune), raw("01 0000 0000000c 000a 001f 0001 00001000 003c ce"), staged(stOpen))
	leads(t, "open", staged(stOpen), raw("01 0000 00000008 000a 0028 01 2f 00 00 ce"), staged(stUp), say(raw("01 0000 00000005 000a 0029 00 ce")))
	leads(t, "channel.open", staged(stUp), raw("01 0001 00000005 0014 000a 00 ce"), up(), say(raw("01 0001 00000008 0014 000b 00000000 ce")))
	leads(t, "channel.close", up(), raw("01 0001 0000000d 0014 0028 00c8 02 6f6b 0000 0000 ce"), staged(stUp), say(raw("01 0001 00000004 0014 0029 ce")), detach(me))
	leads(t, "close", staged(stUp), raw("01 0000 0000000b 000a 0032 00c8 00 0000 0000 ce"), downed(staged(stUp)), say(raw("01 0000 00000004 000a 0033 ce")), end())
}

// What is told in a handshake plays no part.
func TestP17_1_AHandshakeWithAnythingInIt(t *testing.T) {
	for _, in := range []string{
		meth(0, "connection.start-ok"),
		meth(0, "connection.start-ok", allProps(), "EXTERNAL", "x", "de_DE"),
		meth(0, "connection.start-ok", nil, "", strings.Repeat("x", 1024), strings.Repeat("x", 255)),
	} {
		leads(t, "start-ok", staged(stStart), in, staged(stTune), say(meth(0, "connection.tune", 1, 16384, 0)))
	}
	for _, in := range []string{
		meth(0, "connection.tune-ok"),
		meth(0, "connection.tune-ok", 0, 0, 0),
		meth(0, "connection.tune-ok", 65535, 1<<32-1, 65535),
	} {
		leads(t, "tune-ok", staged(stTune), in, staged(stOpen))
	}
	for _, in := range []string{
		meth(0, "connection.open"),
		meth(0, "connection.open", strings.Repeat("/", 255), "x", 255),
	} {
		leads(t, "open", staged(stOpen), in, staged(stUp), say(meth(0, "connection.open-ok", "")))
	}
	for _, in := range []string{on1("channel.open"), on1("channel.open", strings.Repeat("x", 255))} {
		leads(t, "channel.open", staged(stUp), in, up(), say(on1("channel.open-ok", "")))
	}
}

// ready: states of all stages, with and without channel 1, in which no content is due.
func ready() map[string]api.Amqp {
	return map[string]api.Amqp{
		"start": staged(stStart),
		"tune":  staged(stTune),
		"open":  staged(stOpen),
		"up":    staged(stUp),
		"1":     up(),
		"busy":  busy(),
		"in tx": inTx(),
		"shut":  shut(busy()),
	}
}

// dues: states in which a content is due.
func dues() map[string]api.Amqp {
	return map[string]api.Amqp{
		"header due":        headerDue(up()),
		"body due":          bodyDue(up()),
		"busy, header due":  headerDue(busy()),
		"busy, body due":    bodyDue(busy()),
		"in tx, header due": headerDue(inTx()),
		"in tx, body due":   bodyDue(inTx()),
	}
}

// all: both.
func all() map[string]api.Amqp {
	both := ready()
	for what, s := range dues() {
		both[what] = s
	}
	return both
}

func TestP17_1_MethodsOnChannel0(t *testing.T) {
	for what, s := range ready() {
		for _, k := range kinds() {
			in := meth(0, k.name)
			what := what + ", 0: " + k.name
			switch {
			case k.name == "connection.close":
				leads(t, what, s, in, downed(s), say(meth(0, "connection.close-ok")), end())
			case k.name == "connection.start-ok" && s.Stage == stStart:
				leads(t, what, s, in, staged(stTune), say(meth(0, "connection.tune", 1, 16384)))
			case k.name == "connection.tune-ok" && s.Stage == stTune:
				leads(t, what, s, in, staged(stOpen))
			case k.name == "connection.open" && s.Stage == stOpen:
				leads(t, what, s, in, staged(stUp), say(meth(0, "connection.open-ok")))
			default:
				ends(t, what, s, in, 503)
			}
		}
	}
}

func TestP17_1_CloseWithAnythingInIt(t *testing.T) {
	for what, s := range ready() {
		for _, in := range []string{
			meth(0, "connection.close", 200, "bye", 60, 40),
			meth(0, "connection.close", 65535, strings.Repeat("x", 255), 65535, 65535),
		} {
			leads(t, what+": close", s, in, downed(s), say(meth(0, "connection.close-ok")), end())
		}
	}
}

func TestP17_1_MethodsOnOtherChannels(t *testing.T) {
	for what, s := range ready() {
		for _, k := range kinds() {
			for _, channel := range []int{2, 3, 255, 256, 257, 65535} {
				ends(t, fmt.Sprint(what, ", ", channel, ": ", k.name), s, meth(channel, k.name), 504)
			}
			if s.Stage != stUp {
				ends(t, what+", 1: "+k.name, s, on1(k.name), 504)
			}
		}
	}
}

func TestP17_1_MethodsOnChannel1NotOpen(t *testing.T) {
	for what, s := range map[string]api.Amqp{"up": staged(stUp), "shut": shut(busy())} {
		for _, k := range kinds() {
			what := what + ", 1: " + k.name
			switch k.name {
			case "channel.close-ok":
				leads(t, what, s, on1(k.name), s)
			case "channel.open":
				leads(t, what, s, on1(k.name), changed(s, func(s *api.Amqp) { s.Channel = true }), say(on1("channel.open-ok")))
			default:
				ends(t, what, s, on1(k.name), 504)
			}
		}
	}
}

// Those that the chapter's table names.
var inTable = []string{"channel.close", "queue.declare", "queue.bind", "basic.qos", "basic.consume", "basic.publish", "basic.get", "basic.ack", "basic.reject", "basic.nack", "confirm.select", "tx.select", "tx.commit", "tx.rollback"}

func TestP17_1_MethodsThatAreNotInTheTable(t *testing.T) {
	count := 0
	for _, k := range kinds() {
		if strings.Contains(" "+strings.Join(inTable, " ")+" ", " "+k.name+" ") {
			continue
		}
		count++
		for what, s := range map[string]api.Amqp{"1": up(), "busy": busy(), "in tx": inTx()} {
			ends(t, what+": "+k.name, s, on1(k.name), 503)
		}
	}
	is(t, "how many", count, 22)
}

func TestP17_1_Beats(t *testing.T) {
	for what, s := range all() {
		for _, payload := range []string{"", "x", payload("connection.close"), strings.Repeat("x", 16384)} {
			leads(t, what+": a beat", s, frame(8, 0, payload), s)
			for _, channel := range []int{1, 2, 256, 65535} {
				ends(t, fmt.Sprint(what, ": a beat on ", channel), s, frame(8, channel, payload), 501)
			}
		}
	}
}

func TestP17_1_HeadersAndBodiesThatAreNotDue(t *testing.T) {
	for _, kind := range []int{2, 3} {
		for _, payload := range []string{"", "x", head(0, nil, true), head(5, nil, false)} {
			for what, s := range all() {
				for _, channel := range []int{0, 2, 256, 257, 65535} {
					ends(t, fmt.Sprint(what, ": ", kind, " on ", channel), s, frame(kind, channel, payload), 505)
				}
			}
			for what, s := range ready() {
				ends(t, fmt.Sprint(what, ": ", kind), s, frame(kind, 1, payload), 505)
			}
		}
	}
}

// What comes of bytes that are no frame.
func TestP17_1_NoFrame(t *testing.T) {
	wrong := []string{
		"\x00", "\x04", "\x05", "\x07", "\x09", "\xce", "\xff", "GET /", greeting,
		raw("01 0000 00004001"), raw("08 0000 ffffffff"), raw("03 0001 80000000"),
		raw("08 0000 00000000 00"), raw("08 0000 00000000 08"), strings.TrimSuffix(meth(0, "connection.close"), "\xce") + "\xcd",
	}
	for what, s := range all() {
		for _, in := range wrong {
			ends(t, fmt.Sprintf("%s: %q", what, in), s, in, 501)
		}
		for c := range 256 {
			if c != 1 && c != 2 && c != 3 && c != 8 {
				ends(t, fmt.Sprint(what, ": the byte ", c), s, string([]byte{byte(c)}), 501)
			}
		}
	}
}

// What comes of a method's frame whose payload is no method's.
func TestP17_1_NoMethod(t *testing.T) {
	wrong := []string{
		"", "\x00", "\x00\x0a\x00", raw("0000 0000"), raw("000a 0000"), raw("0014 0014"), raw("001e 000a"), raw("003c 0028"), raw("003c 006f"), raw("ffff ffff"),
		payload("tx.select") + "\x00", payload("connection.close-ok") + "x", payload("connection.close") + "\x00", payload("channel.open") + "\x00",
		payload("basic.ack", 5, 0)[:12], payload("basic.ack", 5, 0) + "\x00", payload("basic.ack", -1, 0),
		payload("queue.declare", 0, "q", 0)[:9], payload("queue.declare", 0, "q", 0, []api.Prop{{Name: "A", Value: truth(1)}}),
		payload("connection.start-ok", nil, "PLAIN", strings.Repeat("x", 1025), ""), greeting,
	}
	for what, s := range all() {
		for _, p := range wrong {
			for _, channel := range []int{0, 1, 2, 65535} {
				ends(t, fmt.Sprintf("%s, %d: %q", what, channel, p), s, frame(1, channel, p), 502)
			}
		}
	}
}

// While a content is due no method is heard, on whichever channel, and whatever else would come of it.
func TestP17_1_MethodsWhileAContentIsDue(t *testing.T) {
	for what, s := range dues() {
		for _, k := range kinds() {
			for _, channel := range []int{0, 1, 2, 65535} {
				ends(t, fmt.Sprint(what, ", ", channel, ": ", k.name), s, meth(channel, k.name), 505)
			}
		}
		ends(t, what, s, on1("basic.ack", 0, 1), 505)
		ends(t, what, s, on1("queue.declare", 0, "q", 0, oneProp()), 505)
		ends(t, what, s, on1("basic.publish", 0, "", "q"), 505)
	}
}

// A frame that isn't all there changes nothing.
func TestP17_1_FramesThatAreNotAllThere(t *testing.T) {
	frames := []string{
		frame(8, 0, ""), frame(8, 1, "x"), meth(0, "connection.close", 200, "bye"), on1("channel.close"), on1("tx.select"), meth(2, "tx.select"),
		frame(1, 0, "no method"), content(5), frame(3, 1, "hello"), frame(3, 7, "hello"), frame(3, 1, strings.Repeat("x", 50)),
	}
	for what, s := range all() {
		for _, f := range frames {
			for at := range len(f) {
				waits(t, what, s, f[:at])
			}
		}
		waits(t, what, s, raw("03 0001 00004000")+strings.Repeat("\xce", 16384))
	}
}

func TestP17_1_NothingIsHeardBehindTheEnd(t *testing.T) {
	for what, s := range all() {
		s = downed(s)
		for _, in := range append(behind, on1("channel.close"), meth(0, "connection.close"), frame(8, 0, ""), frame(8, 1, "")) {
			is(t, what, next(s, in), step{s: s})
		}
	}
}
