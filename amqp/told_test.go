package amqp_test

import (
	"fmt"
	"slices"
	"strings"
	"testing"

	"trivet/amqp"
	"trivet/api"
)

// tells is all that Told can answer.
type tells struct {
	s    api.Amqp
	acts []api.Act
}

func told(s api.Amqp, a api.Act, e api.Errno) tells {
	after, acts := amqp.Told(s, me, a, e)
	return tells{after, acts}
}

// wantedActs: one of each kind of what is wanted, as Next wants it.
func wantedActs() map[string]api.Act {
	return map[string]api.Act{
		"declare":      do(refDeclare, "new", api.Op{Kind: opDeclare, Queue: "new", N: 64}),
		"declare auto": do(refDeclare, "new", api.Op{Kind: opDeclare, Queue: "new", N: 64, Auto: true, Durable: true}),
		"declare own":  do(refDeclare, "own", api.Op{Kind: opDeclare, Queue: "own", N: 64, Auto: true}),
		"bind":         do(refBind, "", api.Op{Kind: opBind, Queue: "q", Text: "a.*"}),
		"consume":      do(refConsume, "tag", api.Op{Kind: opSubscribe, Conn: me, Sub: 8, Queue: "q", N: 32}),
		"publish":      do(refPublish, "4", api.Op{Kind: opPublish, Queue: "q", Msg: api.Msg{Topic: "q"}}),
		"publish 1000": do(refPublish, "1000", publishOf("a.b", "hi")),
		"get":          do(refGet, "", api.Op{Kind: opGet, Conn: me, Queue: "q"}),
		"get auto":     do(refGet, "", api.Op{Kind: opGet, Conn: me, Queue: "q", Auto: true}),
		"commit":       do(refCommit, "", publishOf("a.b", "hi"), api.Op{Kind: opAck, Conn: me, Queue: "q", N: 1}),
		"ack":          do(0, "", api.Op{Kind: opAck, Conn: me, Queue: "q", N: 1}),
		"nack":         do(0, "", api.Op{Kind: opNack, Conn: me, Queue: "q", N: 1, Auto: true}),
		"detach":       detach(me),
	}
}

// codeOf: the code with which an error ends the channel.
func codeOf(e api.Errno) int {
	switch e {
	case 33:
		return 404
	case 35, 34, 22, 20:
		return 506
	}
	return 406
}

func TestP17_1_ToldOfAnError(t *testing.T) {
	for what, s := range opened() {
		s.Rest = "what waits"
		for name, a := range wantedActs() {
			for _, e := range errnos {
				what := fmt.Sprint(what, ": ", name, ", ", e)
				switch publish := strings.HasPrefix(name, "publish"); {
				case e == ok:
				case e == errNone && strings.HasPrefix(name, "get"):
					is(t, what, told(s, a, e), tells{s, []api.Act{say(on1("basic.get-empty"))}})
				case publish && s.Confirm && (e == errDeep || e == errFull):
					seq := map[string]int{"4": 4, "1000": 1000}[a.Text]
					is(t, what, told(s, a, e), tells{s, []api.Act{say(on1("basic.nack", seq, 0))}})
				default:
					is(t, what, told(s, a, e), tells{shut(s), []api.Act{say(on1("channel.close", codeOf(e))), detach(me)}})
				}
			}
		}
	}
}

func TestP17_1_ToldThatItIsDone(t *testing.T) {
	for what, s := range opened() {
		s.Rest = "what waits"
		for name, a := range wantedActs() {
			want := tells{s: s}
			switch name {
			case "declare", "declare auto", "declare own":
				want.acts = []api.Act{say(on1("queue.declare-ok", a.Text, 0, 0))}
				if name != "declare" && !slices.Contains(s.Own, a.Text) {
					want.s.Own = append(slices.Clone(s.Own), a.Text)
				}
			case "bind":
				want.acts = []api.Act{say(on1("queue.bind-ok"))}
			case "consume":
				want.acts = []api.Act{say(on1("basic.consume-ok", "tag"))}
			case "publish", "publish 1000":
				if s.Confirm {
					want.acts = []api.Act{say(on1("basic.ack", map[string]int{"4": 4, "1000": 1000}[a.Text], 0))}
				}
			case "commit":
				want.acts = []api.Act{say(on1("tx.commit-ok"))}
			}
			is(t, what+": "+name, told(s, a, ok), want)
		}
	}
}

// Nothing is told to a channel that isn't open, nor behind the end.
func TestP17_1_ToldToNobody(t *testing.T) {
	for what, s := range map[string]api.Amqp{
		"fresh": fresh(), "start": staged(stStart), "tune": staged(stTune), "open": staged(stOpen), "up": staged(stUp), "shut": shut(busy()),
		"down": downed(fresh()), "down, up": downed(staged(stUp)), "down, 1": downed(up()), "down, busy": downed(busy()), "down, in tx": downed(inTx()), "down, due": downed(bodyDue(busy())),
	} {
		for name, a := range wantedActs() {
			for _, e := range errnos {
				is(t, fmt.Sprint(what, ": ", name, ", ", e), told(s, a, e), tells{s: s})
			}
		}
	}
}

func TestP17_1_ToldByteByByte(t *testing.T) {
	for what, want := range map[string]string{
		"declare": "01 0001 00000010 0032 000b 03 6e6577 00000000 00000000 ce",
		"bind":    "01 0001 00000004 0032 0015 ce",
		"consume": "01 0001 00000008 003c 0015 03 746167 ce",
		"publish": "01 0001 0000000d 003c 0050 0000000000000004 00 ce",
		"commit":  "01 0001 00000004 005a 0015 ce",
	} {
		is(t, what, told(busy(), wantedActs()[what], ok).acts, []api.Act{say(raw(want))})
	}
	is(t, "nack", told(busy(), wantedActs()["publish"], errDeep).acts, []api.Act{say(raw("01 0001 0000000d 003c 0078 0000000000000004 00 ce"))})
	is(t, "empty", told(busy(), wantedActs()["get"], errNone).acts, []api.Act{say(raw("01 0001 00000005 003c 0048 00 ce"))})
	is(t, "an error", told(busy(), wantedActs()["get"], errRoom).acts, []api.Act{say(raw("01 0001 0000000b 0014 0028 01fa 00 0000 0000 ce")), detach(me)})
}

// Names as long as they can be, and of any bytes.
func TestP17_1_ToldOfAnyText(t *testing.T) {
	for _, text := range append(texts, "\xce", "a") {
		want := tells{up(), []api.Act{say(on1("queue.declare-ok", text))}}
		is(t, "declare", told(up(), do(refDeclare, text, api.Op{Kind: opDeclare, Queue: text}), ok), want)
		want.s.Own = []string{text}
		is(t, "declare auto", told(up(), do(refDeclare, text, api.Op{Kind: opDeclare, Queue: text, Auto: true}), ok), want)
		is(t, "consume", told(up(), do(refConsume, text), ok), tells{up(), []api.Act{say(on1("basic.consume-ok", text))}})
	}
}

// What no front wanted does no harm: whole frames go out, or none.
func TestP17_1_ToldOfWhatWasNeverWanted(t *testing.T) {
	long := strings.Repeat("x", 70000)
	for _, s := range all() {
		for _, ref := range []int{-1, 0, 1, 10, 12811, 12821, 15381, 15450, refDeclare, refBind, refConsume, refPublish, refGet, refCommit, 1 << 40} {
			for _, text := range []string{"", "-1", "-0", "+5", "x", "99999999999999999999", "-99999999999999999999", "9223372036854775807", long} {
				for _, kind := range []int{0, isSay, isDo, isEnd, 9} {
					for _, e := range []api.Errno{ok, errArg, errNone, errDeep} {
						after := told(s, api.Act{Kind: kind, Bytes: long, Ref: ref, Text: text}, e)
						wholeFrames(t, after.acts)
					}
				}
			}
		}
	}
}

// wholeFrames: that what is said are whole frames, one in each act, on channel 1.
func wholeFrames(t *testing.T, acts []api.Act) {
	t.Helper()
	for _, a := range acts {
		if a.Kind == isSay && (len(a.Bytes) < 12 || a.Bytes != frame(1, 1, a.Bytes[7:len(a.Bytes)-1])) {
			t.Errorf("%q is no frame", a.Bytes)
		}
	}
}

// Queues that go with the connection, each once, in the order in which they were declared first.
func TestP17_1_OwnQueues(t *testing.T) {
	s := up()
	var own []string
	for n := range 40 {
		name := fmt.Sprint("q", n*7%16)
		got := next(s, on1("queue.declare", 0, name, []int{4, 6, 0}[n%3]))
		s = told(got.s, got.acts[0], []api.Errno{ok, ok, errArg, ok}[n%4]).s
		if n%3 != 2 && n%4 != 2 && !slices.Contains(own, name) {
			own = append(own, name)
		}
		if n%4 == 2 {
			s = next(s, on1("channel.open")).s
		}
		is(t, fmt.Sprint("behind ", n), s.Own, own)
	}
}

func TestP17_1_Lost(t *testing.T) {
	for what, s := range all() {
		for _, s := range []api.Amqp{s, downed(s)} {
			want := []api.Op{{Kind: opDetach, Conn: me}}
			for _, name := range s.Own {
				want = append(want, api.Op{Kind: opDelete, Queue: name})
			}
			is(t, what, amqp.Lost(s, me), want)
		}
	}
	is(t, "New", amqp.Lost(amqp.New(), 0), []api.Op{{Kind: opDetach}})
	is(t, "own queues", amqp.Lost(busy(), 7), []api.Op{{Kind: opDetach, Conn: 7}, {Kind: opDelete, Queue: "own"}, {Kind: opDelete, Queue: "a"}})
}
