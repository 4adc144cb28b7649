package stomp_test

import (
	"fmt"
	"math"
	"strconv"
	"strings"
	"testing"

	"trivet/api"
	"trivet/stomp"
)

// gives is all that Give can answer.
type gives struct {
	s api.Stomp
	b string
}

func give(s api.Stomp, o api.Out) gives {
	after, b := stomp.Give(s, o)
	return gives{after, string(b)}
}

// given: what is left of a state when something was given, held by a tag.
func given(s api.Stomp, o api.Out) api.Stomp {
	return changed(s, func(s *api.Stomp) {
		if s.Num++; o.Tag != 0 {
			s.Given = append(s.Given, api.Given{Num: s.Num, Sub: o.Sub, Queue: o.Queue, Tag: o.Tag})
		}
	})
}

func TestP19_1_GiveByteByByte(t *testing.T) {
	s := up()
	s.Subs = []api.Named{{Name: "a:b", Sub: 1, Queue: "s3-1"}, {Name: "1", Sub: 2, Queue: "q"}}
	o := api.Out{Conn: me, Sub: 1, Queue: "s3-1", Msg: api.Msg{Topic: "a.b"}}
	is(t, "nothing but what must be", give(s, o), gives{given(s, o), "MESSAGE\nsubscription:a\\cb\nmessage-id:1\ndestination:/topic/a.b\ncontent-length:0\n\n\x00"})
	o.Tag, o.Again, o.Msg.Durable, o.Msg.Props, o.Msg.Body = 7, true, true, allProps(), "h\x00i"
	is(t, "with all", give(s, o), gives{given(s, o), "MESSAGE\nsubscription:a\\cb\nmessage-id:1\ndestination:/topic/a.b\nack:1\nredelivered:true\npersistent:true\n" +
		"p-a:i-9223372036854775808\np-b:b0\np-c:th\\ci\x00\\r\\n\\\\\np-d:f-0\np-e:f0.1\ncontent-length:3\n\nh\x00i\x00"})
	s.Num = 41
	o = api.Out{Conn: me, Sub: 2, Tag: 1, Queue: "q", Msg: api.Msg{Topic: "q", Body: "x"}}
	is(t, "of a queue", give(s, o), gives{given(s, o), "MESSAGE\nsubscription:1\nmessage-id:42\ndestination:/queue/q\nack:42\ncontent-length:1\n\nx\x00"})
}

// listed: properties as headers have them.
func listed(props []api.Prop) []string {
	words := map[int]func(v api.Value) string{
		1: func(v api.Value) string { return fmt.Sprintf("i%d", v.Num) },
		2: func(v api.Value) string { return fmt.Sprintf("b%d", v.Num) },
		3: func(v api.Value) string { return "t" + v.Text },
		// Of the floats that the tests have.
		4: func(v api.Value) string { return "f" + strconv.FormatFloat(v.Real, 'g', -1, 64) },
	}
	var pairs []string
	for _, p := range props {
		pairs = append(pairs, "p-"+p.Name, words[p.Value.Kind](p.Value))
	}
	return pairs
}

// messageOf: the frame by which something goes out to a subscription.
func messageOf(s api.Stomp, n api.Named, o api.Out) string {
	num := fmt.Sprint(s.Num + 1)
	place := "/topic/"
	if n.Queue == o.Msg.Topic {
		place = "/queue/"
	}
	pairs := []string{"subscription", n.Name, "message-id", num, "destination", place + o.Msg.Topic}
	for _, more := range []struct {
		there      bool
		name, text string
	}{{o.Tag != 0, "ack", num}, {o.Again, "redelivered", "true"}, {o.Msg.Durable, "persistent", "true"}} {
		if more.there {
			pairs = append(pairs, more.name, more.text)
		}
	}
	pairs = with(pairs, listed(o.Msg.Props)...)
	return wire("MESSAGE", o.Msg.Body, with(pairs, "content-length", fmt.Sprint(len(o.Msg.Body)))...)
}

// messages: messages of all kinds, to queues, topics, and what a subscription's own queue is called.
func messages() []api.Msg {
	var list []api.Msg
	for _, topic := range []string{"q", "p", "a.b", "s3-5", "s3-6", strings.Repeat(long(15)+".", 3) + long(16)} {
		for _, body := range []string{"", "x", "a:b\\\r\n\x00", long(1024)} {
			for _, props := range [][]api.Prop{nil, oneProp(), allProps(), manyProps(16)} {
				for _, durable := range []bool{false, true} {
					list = append(list, api.Msg{Topic: topic, Body: body, Props: props, Durable: durable, Until: len(body)})
				}
			}
		}
	}
	return list
}

func TestP19_1_Give(t *testing.T) {
	for what, s := range opened() {
		s.Rest = "what waits"
		for _, n := range s.Subs {
			for _, m := range messages() {
				for _, tag := range []int{0, 1, 77, 1 << 40} {
					for _, again := range []bool{false, true} {
						// From which queue it comes, on which connection, and whether it was retained, plays no part in what goes out.
						o := api.Out{Conn: tag % 8, Sub: n.Sub, Tag: tag, Queue: []string{"from", m.Topic}[tag%2], Again: again, Kept: tag == 1, Msg: m}
						if !is(t, what+": to "+n.Name, give(s, o), gives{given(s, o), messageOf(s, n, o)}) {
							return
						}
					}
				}
			}
		}
	}
}

// The longest of all messages goes out whole, to the longest of ids.
func TestP19_1_GiveOfTheLongest(t *testing.T) {
	for _, c := range []string{"x", ":", "\n", "\x00"} {
		var props []api.Prop
		for n := range 16 {
			props = append(props, api.Prop{Name: fmt.Sprintf("n%015d", n), Value: text(strings.Repeat(c, 256))})
		}
		n := api.Named{Name: strings.Repeat(c, 256), Sub: 1, Queue: "s3-1"}
		s := api.Stomp{Up: true, Count: 1, Num: 1 << 40, Subs: []api.Named{n}}
		o := api.Out{Conn: me, Sub: 1, Tag: 1 << 40, Queue: "s3-1", Again: true, Msg: api.Msg{Topic: strings.Repeat(long(15)+".", 3) + long(16), Body: strings.Repeat(c, 1024), Props: props, Durable: true}}
		is(t, fmt.Sprintf("of %q", c), give(s, o), gives{given(s, o), messageOf(s, n, o)})
	}
}

func TestP19_1_GiveToNobody(t *testing.T) {
	m := api.Msg{Topic: "q", Body: "hi", Props: oneProp()}
	states := opened()
	states["fresh"] = fresh()
	for what, s := range states {
		for _, sub := range []int{0, 1, 3, 4, 8, 10, -1, -2, 1 << 32, 1<<32 + 2, 1 << 40, math.MaxInt, math.MinInt} {
			if what == "filled" && sub == 0 {
				continue
			}
			for _, tag := range []int{0, 7} {
				is(t, fmt.Sprint(what, ": to ", sub), give(s, api.Out{Conn: me, Sub: sub, Tag: tag, Queue: "q", Msg: m}), gives{s: s})
			}
		}
	}
	for what, s := range opened() {
		for _, n := range s.Subs {
			for _, tag := range []int{0, 7} {
				o := api.Out{Conn: me, Sub: n.Sub, Tag: tag, Queue: "q", Msg: m}
				for _, s := range []api.Stomp{downed(s), changed(s, func(s *api.Stomp) { s.Up = false }), changed(downed(s), func(s *api.Stomp) { s.Up = false })} {
					is(t, what+", not any more or not yet", give(s, o), gives{s: s})
				}
				gone := next(s, line("UNSUBSCRIBE", "id", n.Name)).s
				is(t, what+", behind UNSUBSCRIBE", give(gone, o), gives{s: gone})
				gone = next(s, line("DISCONNECT")).s
				is(t, what+", behind DISCONNECT", give(gone, o), gives{s: gone})
			}
		}
	}
}

// What has no text, or no room in a frame, is no core's: nothing goes out, and nothing is given.
func TestP19_1_GiveOfWhatCannotBe(t *testing.T) {
	for what, m := range map[string]api.Msg{
		"a body too long":    {Topic: "a", Body: long(1025)},
		"much too long":      {Topic: "a", Body: long(70000)},
		"a value of no kind": {Topic: "a", Props: []api.Prop{{Name: "a"}}},
		"a truth of 2":       {Topic: "a", Props: []api.Prop{{Name: "a", Value: truth(2)}}},
		"a text too long":    {Topic: "a", Props: []api.Prop{{Name: "a", Value: text(long(257))}}},
	} {
		for _, tag := range []int{0, 7} {
			is(t, what, give(busy(), api.Out{Sub: 2, Tag: tag, Queue: "q", Msg: m}), gives{s: busy()})
		}
	}
}

// What is given is numbered, whether it is held or not; what is held can be settled by its number.
func TestP19_1_GivenIsNumbered(t *testing.T) {
	s := up()
	s.Subs = []api.Named{{Name: "a", Sub: 1, Queue: "q"}, {Name: "b", Sub: 2, Queue: "s3-2", Auto: true}}
	for n := 1; n <= 60; n++ {
		o := api.Out{Conn: me, Sub: 1 + n%2, Tag: 3 * n * (n % 3), Queue: []string{"q", "s3-2"}[n%2], Msg: api.Msg{Topic: "a"}}
		got := give(s, o)
		is(t, fmt.Sprint("number ", n), got.s, given(s, o))
		is(t, "Num", got.s.Num, n)
		s = got.s
		if n%3 == 0 {
			ends(t, "what isn't held", s, line("ACK", "id", fmt.Sprint(n)), "id")
			continue
		}
		for command, like := range settling {
			want, op := settledBy(s, like, len(s.Given)-1)
			is(t, "the tag", op.N, 3*n*(n%3))
			leads(t, "what is held", s, line(command, "id", fmt.Sprint(n)), want, do("", op))
		}
	}
}
