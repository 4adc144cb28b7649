package amqp_test

import (
	"fmt"
	"strings"
	"testing"

	"trivet/amqp"
	"trivet/api"
)

// gives is all that Give can answer.
type gives struct {
	s api.Amqp
	b string
}

func give(s api.Amqp, o api.Out) gives {
	after, b := amqp.Give(s, o)
	return gives{after, string(b)}
}

// given: what is left of a state when something was given, held by a tag.
func given(s api.Amqp, o api.Out) api.Amqp {
	return changed(s, func(s *api.Amqp) {
		if s.Num++; o.Tag != 0 {
			s.Given = append(s.Given, api.Given{Num: s.Num, Sub: o.Sub, Queue: o.Queue, Tag: o.Tag})
		}
	})
}

func TestP17_1_GiveByteByByte(t *testing.T) {
	s := up()
	s.Subs = []api.Named{{Name: "c1", Sub: 1, Queue: "q"}}
	deliver := "01 0001 0000001e 003c 003c 02 6331 0000000000000001 00 09 616d712e746f706963 03 612e62 ce"
	o := api.Out{Conn: me, Sub: 1, Tag: 7, Queue: "q", Msg: api.Msg{Topic: "a.b"}}
	is(t, "without a body", give(s, o), gives{given(s, o), raw(deliver + "02 0001 0000000f 003c 0000 0000000000000000 1000 01 ce")})
	o.Msg.Body, o.Msg.Durable, o.Msg.Props = "hi", true, oneProp()
	is(t, "with all", give(s, o), gives{given(s, o), raw(deliver + "02 0001 00000017 003c 0000 0000000000000002 3000 00000004 01 61 74 01 02 ce 03 0001 00000002 6869 ce")})
	o.Sub, o.Again = 0, true
	is(t, "to a get", give(s, o), gives{given(s, o), raw("01 0001 0000001f 003c 0047 0000000000000001 01 09 616d712e746f706963 03 612e62 00000000 ce 02 0001 00000017 003c 0000 0000000000000002 3000 00000004 01 61 74 01 02 ce 03 0001 00000002 6869 ce")})
}

// messages: messages of all kinds.
func messages() []api.Msg {
	var list []api.Msg
	for _, body := range []string{"", "x", "\x00\xce", strings.Repeat("b", 1024)} {
		for _, props := range [][]api.Prop{nil, oneProp(), allProps()} {
			for _, durable := range []bool{false, true} {
				list = append(list, api.Msg{Topic: "a.b", Body: body, Props: props, Durable: durable, Until: len(body)})
			}
		}
	}
	return append(list, api.Msg{Topic: "x", Body: "hi"}, api.Msg{Topic: strings.Repeat("a", 15) + strings.Repeat("."+strings.Repeat("a", 15), 3)})
}

// contentOf: the frames of a message's content.
func contentOf(m api.Msg) string {
	b := frame(2, 1, head(len(m.Body), m.Props, m.Durable))
	if m.Body != "" {
		b += frame(3, 1, m.Body)
	}
	return b
}

func TestP17_1_GiveToASubscription(t *testing.T) {
	for what, s := range map[string]api.Amqp{"busy": busy(), "in tx": inTx(), "due": bodyDue(busy()), "header due": headerDue(inTx())} {
		s.Rest = "what waits"
		for _, n := range s.Subs {
			for _, m := range messages() {
				for _, tag := range []int{0, 1, 77, 1 << 40} {
					for _, again := range []int{0, 1} {
						// From which queue it comes, and on which connection, plays no part in what goes out.
						o := api.Out{Conn: again, Sub: n.Sub, Tag: tag, Queue: "from", Again: again == 1, Kept: tag == 1, Msg: m}
						is(t, what+": to "+n.Name, give(s, o), gives{given(s, o), on1("basic.deliver", n.Name, s.Num+1, again, "amq.topic", m.Topic) + contentOf(m)})
					}
				}
			}
		}
	}
}

func TestP17_1_GiveToAGet(t *testing.T) {
	for what, s := range map[string]api.Amqp{"1": up(), "busy": busy(), "in tx": inTx(), "due": headerDue(busy())} {
		for _, m := range messages() {
			for _, tag := range []int{0, 1, 77, 1 << 40} {
				for _, again := range []int{0, 1} {
					o := api.Out{Conn: me, Tag: tag, Queue: "from", Again: again == 1, Msg: m}
					is(t, what, give(s, o), gives{given(s, o), on1("basic.get-ok", s.Num+1, again, "amq.topic", m.Topic, 0) + contentOf(m)})
				}
			}
		}
	}
}

func TestP17_1_GiveToNobody(t *testing.T) {
	for what, s := range opened() {
		for _, sub := range []int{-1, 1, 2, 4, 8, 9, 1 << 32, 1<<32 + 5, 1 << 40} {
			is(t, fmt.Sprint(what, ": to ", sub), give(s, api.Out{Conn: me, Sub: sub, Tag: 7, Queue: "q", Msg: api.Msg{Topic: "a"}}), gives{s: s})
		}
	}
	for what, s := range map[string]api.Amqp{
		"fresh": fresh(), "start": staged(stStart), "tune": staged(stTune), "open": staged(stOpen), "up": staged(stUp), "shut": shut(busy()),
		"down": downed(fresh()), "down, up": downed(staged(stUp)), "down, busy": downed(busy()), "down, in tx": downed(inTx()),
	} {
		for _, sub := range []int{0, 1, 5, 6, 7} {
			for _, tag := range []int{0, 7} {
				is(t, fmt.Sprint(what, ": to ", sub), give(s, api.Out{Conn: me, Sub: sub, Tag: tag, Queue: "q", Msg: api.Msg{Topic: "a", Body: "hi"}}), gives{s: s})
			}
		}
	}
}

// A message that can't be is no core's: nothing goes out, and nothing is given.
func TestP17_1_GiveOfWhatCannotBe(t *testing.T) {
	for what, m := range map[string]api.Msg{
		"a body too long":  {Topic: "a", Body: strings.Repeat("x", 1025)},
		"much too long":    {Topic: "a", Body: strings.Repeat("x", 70000)},
		"a topic too long": {Topic: strings.Repeat("x", 256)},
		"a wrong property": {Topic: "a", Props: []api.Prop{{Name: "A", Value: truth(1)}}},
		"no order":         {Topic: "a", Props: []api.Prop{{Name: "b", Value: truth(1)}, {Name: "a", Value: truth(1)}}},
	} {
		for _, sub := range []int{0, 5, 6} {
			is(t, what, give(busy(), api.Out{Sub: sub, Tag: 7, Queue: "q", Msg: m}), gives{s: busy()})
		}
	}
}

// What is given is numbered, whether it is held or not; what is held can be settled by its number.
func TestP17_1_GivenIsNumbered(t *testing.T) {
	s := up()
	s.Subs = []api.Named{{Name: "a", Sub: 1, Queue: "q"}, {Name: "b", Sub: 2, Queue: "p", Auto: true}}
	for n := 1; n <= 60; n++ {
		o := api.Out{Sub: n % 3, Tag: n * (n % 2), Queue: "q", Msg: api.Msg{Topic: "a"}}
		got := give(s, o)
		is(t, fmt.Sprint("number ", n), got.s, given(s, o))
		is(t, "Num", got.s.Num, n)
		s = got.s
		if n%2 == 0 {
			shuts(t, "what isn't held", s, on1("basic.ack", n, 0), 406)
			continue
		}
		want, acts := settled(s, opAck, false, n)
		leads(t, "what is held", s, on1("basic.ack", n, 0), want, acts...)
	}
}
