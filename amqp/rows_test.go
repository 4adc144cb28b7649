package amqp_test

import (
	"fmt"
	"math"
	"strings"
	"testing"

	"trivet/amqp"
	"trivet/api"
)

// opened: states in which channel 1 is open and no content is due.
func opened() map[string]api.Amqp {
	many := up()
	many.Window, many.Count, many.Num = 1, 9, 1<<40
	return map[string]api.Amqp{"1": up(), "busy": busy(), "in tx": inTx(), "many": many}
}

// Texts that a short text can be.
var texts = []string{"", "q", "a.b", "A/b c", "\x00\xff", strings.Repeat("x", 255)}

func TestP17_1_ChannelClose(t *testing.T) {
	for what, s := range opened() {
		for _, in := range []string{on1("channel.close"), on1("channel.close", 200, "bye", 60, 40), on1("channel.close", 65535, strings.Repeat("x", 255), 65535, 65535)} {
			leads(t, what, s, in, shut(s), say(on1("channel.close-ok")), detach(me))
		}
	}
}

// A channel that was shut begins anew, but for the number of the last subscription, and the queues of the connection.
func TestP17_1_OpenedAnew(t *testing.T) {
	for what, s := range opened() {
		closed := next(s, on1("channel.close")).s
		anew := next(closed, on1("channel.open")).s
		want := shut(s)
		want.Channel = true
		is(t, what, anew, want)
		leads(t, what+": what was given is gone", anew, on1("basic.ack", 0, 1), anew)
		shuts(t, what+": what was given is gone", anew, on1("basic.ack", 1+s.Num, 1), 406)
		shuts(t, what+": no transaction", anew, on1("tx.commit"), 406)
		tag := fmt.Sprint("c", s.Count+1)
		subscribed := next(anew, on1("basic.consume", 0, "q"))
		is(t, what+": the next subscription", subscribed.acts, []api.Act{do(refConsume, tag, api.Op{Kind: opSubscribe, Conn: me, Sub: s.Count + 1, Queue: "q", N: 32})})
	}
	// In one row, with the answer to what the channel's end said, which may come late.
	s := next(busy(), on1("basic.ack", 7, 0)+on1("channel.close-ok")+on1("channel.open")+on1("channel.close"))
	is(t, "a tag that isn't there", s.acts, []api.Act{say(on1("channel.close", 406)), detach(me)})
	want := shut(busy())
	for _, c := range []struct {
		open bool
		acts []api.Act
	}{
		{false, nil},
		{true, []api.Act{say(on1("channel.open-ok"))}},
		{false, []api.Act{say(on1("channel.close-ok")), detach(me)}},
	} {
		s = next(s.s, "")
		want.Channel, want.Rest = c.open, s.s.Rest
		is(t, "in one row", s, step{want, c.acts, true})
	}
	is(t, "in one row: the end", next(s.s, ""), step{s: shut(busy())})
}

func TestP17_1_Declare(t *testing.T) {
	for what, s := range opened() {
		for bits := range 256 {
			in := on1("queue.declare", 0, "q", bits)
			what := fmt.Sprint(what, ": bits ", bits)
			if bits != 0 && bits != 2 && bits != 4 && bits != 6 {
				shuts(t, what, s, in, 540)
				continue
			}
			leads(t, what, s, in, s, do(refDeclare, "q", api.Op{Kind: opDeclare, Queue: "q", Durable: bits == 2 || bits == 6, Auto: bits >= 4, N: 64}))
			shuts(t, what+", with a property", s, on1("queue.declare", 0, "q", bits, oneProp()), 540)
			shuts(t, what+", with properties", s, on1("queue.declare", 0, "q", bits, allProps()), 540)
		}
		for _, name := range texts {
			leads(t, what, s, on1("queue.declare", 65535, name), s, do(refDeclare, name, api.Op{Kind: opDeclare, Queue: name, N: 64}))
		}
	}
}

func TestP17_1_Bind(t *testing.T) {
	for what, s := range opened() {
		for bits := 1; bits < 256; bits++ {
			shuts(t, fmt.Sprint(what, ": bits ", bits), s, on1("queue.bind", 0, "q", "amq.topic", "a.*", bits), 540)
		}
		// The first rule that is broken is told.
		shuts(t, what, s, on1("queue.bind", 0, "q", "amq.topic", "a.*", 0, oneProp()), 540)
		shuts(t, what, s, on1("queue.bind", 0, "q", "amq.direct", "a.*", 0, oneProp()), 540)
		shuts(t, what, s, on1("queue.bind", 0, "q", "", "a.*", 1), 540)
		for _, exchange := range append(texts, "amq.direct", "amq.topi", "amq.topics", "Amq.topic", " amq.topic", "amq.topic\x00") {
			shuts(t, what+": the exchange "+exchange, s, on1("queue.bind", 0, "q", exchange, "a.*"), 404)
		}
		for _, queue := range texts {
			for _, pattern := range append(texts, "a.*", "#", "a.#") {
				leads(t, what, s, on1("queue.bind", 65535, queue, "amq.topic", pattern), s, do(refBind, "", api.Op{Kind: opBind, Queue: queue, Text: pattern}))
			}
		}
	}
}

func TestP17_1_Qos(t *testing.T) {
	windows := map[int]int{0: 32, 33: 32, 34: 32, 64: 32, 255: 32, 256: 32, 257: 32, 65535: 32}
	for n := 1; n <= 32; n++ {
		windows[n] = n
	}
	for what, s := range opened() {
		for n, window := range windows {
			for _, first := range []int{0, 1, 1<<32 - 1} {
				for _, bits := range []int{0, 1, 255} {
					want := s
					want.Window = window
					leads(t, fmt.Sprint(what, ": ", n), s, on1("basic.qos", first, n, bits), want, say(on1("basic.qos-ok")))
				}
			}
		}
	}
	// It is the window of what is subscribed to behind it.
	for n, window := range windows {
		s := next(up(), on1("basic.qos", 0, n)).s
		is(t, fmt.Sprint("a subscription behind ", n), next(s, on1("basic.consume", 0, "q", "t")).acts, []api.Act{do(refConsume, "t", api.Op{Kind: opSubscribe, Conn: me, Sub: 1, Queue: "q", N: window})})
	}
}

// subscribed: what comes of a consume: of a queue, by a tag.
func subscribed(s api.Amqp, queue, tag string, auto bool) (api.Amqp, api.Act) {
	o := api.Op{Kind: opSubscribe, Conn: me, Sub: s.Count + 1, Queue: queue, N: s.Window, Auto: auto}
	return changed(s, func(s *api.Amqp) {
		s.Count++
		s.Subs = append(s.Subs, api.Named{Name: tag, Sub: s.Count, Queue: queue, Auto: auto})
	}), do(refConsume, tag, o)
}

func TestP17_1_Consume(t *testing.T) {
	for what, s := range opened() {
		for bits := range 256 {
			in := on1("basic.consume", 0, "q", "t", bits)
			what := fmt.Sprint(what, ": bits ", bits)
			if bits != 0 && bits != 2 {
				shuts(t, what, s, in, 540)
				continue
			}
			want, act := subscribed(s, "q", "t", bits == 2)
			leads(t, what, s, in, want, act)
			shuts(t, what+", with a property", s, on1("basic.consume", 0, "q", "t", bits, oneProp()), 540)
			shuts(t, what+", with properties", s, on1("basic.consume", 0, "q", "t", bits, allProps()), 540)
		}
		for _, queue := range texts {
			for _, tag := range texts {
				if tag == "" {
					want, act := subscribed(s, queue, fmt.Sprint("c", s.Count+1), false)
					leads(t, what, s, on1("basic.consume", 65535, queue, tag), want, act)
					continue
				}
				want, act := subscribed(s, queue, tag, false)
				leads(t, what, s, on1("basic.consume", 65535, queue, tag), want, act)
			}
		}
	}
}

func TestP17_1_ConsumeOfATagThatIsThere(t *testing.T) {
	for what, s := range map[string]api.Amqp{"busy": busy(), "in tx": inTx()} {
		for _, n := range s.Subs {
			for _, bits := range []int{0, 2} {
				shuts(t, what+": "+n.Name, s, on1("basic.consume", 0, "other", n.Name, bits), 530)
			}
			shuts(t, what+": "+n.Name, s, on1("basic.consume", 0, "q", n.Name, 1), 540)
			shuts(t, what+": "+n.Name, s, on1("basic.consume", 0, "q", n.Name, 0, oneProp()), 540)
		}
	}
	// The tag that is made when none is told may be there, too.
	for _, count := range []int{0, 1, 8, 9, 99} {
		s := up()
		s.Count = count
		named := next(s, on1("basic.consume", 0, "q", fmt.Sprint("c", count+2))).s
		shuts(t, fmt.Sprint("c and ", count+2), named, on1("basic.consume", 0, "q"), 530)
		named = next(s, on1("basic.consume", 0, "q", fmt.Sprint("c", count+1))).s
		want, act := subscribed(named, "q", fmt.Sprint("c", count+2), false)
		leads(t, fmt.Sprint("c and ", count+1), named, on1("basic.consume", 0, "q"), want, act)
	}
	// What was said of a subscription plays no part: it is noted at once.
	s := next(up(), on1("basic.consume", 0, "q", "t")+on1("basic.consume", 0, "p", "t")).s
	is(t, "twice", next(s, "").acts, []api.Act{say(on1("channel.close", 530)), detach(me)})
}

// All subscriptions are noted, in their order, each with its own number.
func TestP17_1_ConsumeManyTimes(t *testing.T) {
	s := up()
	for n := range 40 {
		tag := []string{"", fmt.Sprint("z", 40-n)}[n%2]
		want, act := subscribed(s, "q", []string{fmt.Sprint("c", n+1), tag}[n%2], false)
		leads(t, fmt.Sprint("the one behind ", n), s, on1("basic.consume", 0, "q", tag), want, act)
		s = want
	}
}

// due: a state in which a publish's header is due.
func due(s api.Amqp, queue, topic string) api.Amqp {
	return changed(s, func(s *api.Amqp) {
		s.Want, s.Pub = 0, api.Op{Kind: opPublish, Queue: queue, Msg: api.Msg{Topic: topic}}
	})
}

func TestP17_1_Publish(t *testing.T) {
	names := []string{"q", "a", "0", "-", "_", "a-b_9", strings.Repeat("x", 16)}
	nameless := []string{"", "A", "a.b", "a b", "*", "#", "a/b", "\xff", strings.Repeat("x", 17), strings.Repeat("x", 255)}
	for what, s := range opened() {
		for bits := 1; bits < 256; bits++ {
			shuts(t, fmt.Sprint(what, ": bits ", bits), s, on1("basic.publish", 0, "amq.topic", "a", bits), 540)
			shuts(t, fmt.Sprint(what, ": bits ", bits), s, on1("basic.publish", 0, "", "q", bits), 540)
			shuts(t, fmt.Sprint(what, ": bits ", bits), s, on1("basic.publish", 0, "x", "", bits), 540)
		}
		for _, name := range names {
			leads(t, what+": to "+name, s, on1("basic.publish", 0, "", name), due(s, name, name))
			leads(t, what+": of "+name, s, on1("basic.publish", 65535, "amq.topic", name), due(s, "", name))
			shuts(t, what+": elsewhere", s, on1("basic.publish", 0, "amq.direct", name), 404)
		}
		for _, name := range nameless {
			shuts(t, what+": to "+name, s, on1("basic.publish", 0, "", name), 404)
			leads(t, what+": of "+name, s, on1("basic.publish", 0, "amq.topic", name), due(s, "", name))
			shuts(t, what+": elsewhere", s, on1("basic.publish", 0, "x", name), 404)
		}
		for _, exchange := range []string{"x", "amq.topi", "amq.topics", "AMQ.topic", " ", "\x00", strings.Repeat("x", 255)} {
			shuts(t, what+": the exchange "+exchange, s, on1("basic.publish", 0, exchange, "q"), 404)
		}
	}
}

func TestP17_1_Get(t *testing.T) {
	for what, s := range opened() {
		for bits := range 256 {
			in := on1("basic.get", 0, "q", bits)
			if bits > 1 {
				shuts(t, fmt.Sprint(what, ": bits ", bits), s, in, 540)
				continue
			}
			leads(t, fmt.Sprint(what, ": bits ", bits), s, in, s, do(refGet, "", api.Op{Kind: opGet, Conn: me, Queue: "q", Auto: bits == 1}))
		}
		for _, name := range texts {
			leads(t, what, s, on1("basic.get", 65535, name), s, do(refGet, "", api.Op{Kind: opGet, Conn: me, Queue: name}))
		}
	}
}

func TestP17_1_Selects(t *testing.T) {
	confirming, transacting := up(), up()
	confirming.Confirm, transacting.Tx = true, true
	for _, bits := range []int{0, 1, 255} {
		in := on1("confirm.select", bits)
		leads(t, "confirm.select", up(), in, confirming, say(on1("confirm.select-ok")))
		leads(t, "confirm.select once more", confirming, in, confirming, say(on1("confirm.select-ok")))
		leads(t, "confirm.select, busy", busy(), in, busy(), say(on1("confirm.select-ok")))
		shuts(t, "confirm.select in a transaction", transacting, in, 406)
		shuts(t, "confirm.select in a transaction", inTx(), in, 406)
	}
	in := on1("tx.select")
	leads(t, "tx.select", up(), in, transacting, say(on1("tx.select-ok")))
	leads(t, "tx.select once more", transacting, in, transacting, say(on1("tx.select-ok")))
	leads(t, "tx.select in a transaction", inTx(), in, inTx(), say(on1("tx.select-ok")))
	shuts(t, "tx.select behind confirm.select", confirming, in, 406)
	shuts(t, "tx.select, busy", busy(), in, 406)
	// What was published and given ahead of it plays no part.
	s := busy()
	s.Confirm, s.Seq = false, 0
	leads(t, "tx.select", s, in, changed(s, func(s *api.Amqp) { s.Tx = true }), say(on1("tx.select-ok")))
	leads(t, "confirm.select", s, on1("confirm.select"), changed(s, func(s *api.Amqp) { s.Confirm = true }), say(on1("confirm.select-ok")))
}

// The connection's number is in all that is wanted for it, and in nothing else.
func TestP17_1_EachConnection(t *testing.T) {
	s := busy()
	s.Confirm, s.Seq = false, 0
	tx := changed(s, func(s *api.Amqp) { s.Tx = true })
	for conn := range 8 {
		hear := func(s api.Amqp, in string) []api.Act {
			s.Rest = in
			after, acts, _ := amqp.Next(s, conn)
			for after.Rest != "" {
				var more []api.Act
				after, more, _ = amqp.Next(after, conn)
				acts = append(acts, more...)
			}
			return acts
		}
		what := fmt.Sprint("connection ", conn)
		is(t, what, hear(s, on1("channel.close")), []api.Act{say(on1("channel.close-ok")), detach(conn)})
		is(t, what, hear(s, on1("tx.commit")), []api.Act{say(on1("channel.close", 406)), detach(conn)})
		is(t, what, hear(s, on1("queue.declare", 0, "q")), []api.Act{do(refDeclare, "q", api.Op{Kind: opDeclare, Queue: "q", N: 64})})
		is(t, what, hear(s, on1("queue.bind", 0, "q", "amq.topic", "#")), []api.Act{do(refBind, "", api.Op{Kind: opBind, Queue: "q", Text: "#"})})
		is(t, what, hear(s, on1("basic.consume", 0, "q", "t")), []api.Act{do(refConsume, "t", api.Op{Kind: opSubscribe, Conn: conn, Sub: 8, Queue: "q", N: 5})})
		is(t, what, hear(s, on1("basic.get", 0, "q")), []api.Act{do(refGet, "", api.Op{Kind: opGet, Conn: conn, Queue: "q"})})
		is(t, what, hear(s, on1("basic.ack", 5, 0)), []api.Act{do(0, "", api.Op{Kind: opAck, Conn: conn, Queue: "p", N: 3})})
		is(t, what, hear(s, on1("basic.reject", 5, 1)), []api.Act{do(0, "", api.Op{Kind: opNack, Conn: conn, Queue: "p", N: 3, Auto: true})})
		is(t, what, hear(s, on1("basic.publish", 0, "", "q")+content(0)), []api.Act{do(refPublish, "0", api.Op{Kind: opPublish, Queue: "q", Msg: api.Msg{Topic: "q"}})})
		is(t, what, hear(tx, on1("basic.ack", 5, 0)+on1("basic.nack", 9, 0)+on1("tx.commit")), []api.Act{do(refCommit, "", api.Op{Kind: opAck, Conn: conn, Queue: "p", N: 3}, api.Op{Kind: opNack, Conn: conn, Queue: "q", N: 24})})
		_, acts := amqp.Told(s, conn, do(refGet, ""), errArg)
		is(t, what, acts, []api.Act{say(on1("channel.close", 406)), detach(conn)})
		is(t, what, amqp.Lost(s, conn), []api.Op{{Kind: opDetach, Conn: conn}, {Kind: opDelete, Queue: "own"}, {Kind: opDelete, Queue: "a"}})
	}
	// What can't be a connection does no harm either.
	for _, conn := range []int{-1, 8, math.MinInt, math.MaxInt} {
		s.Rest = on1("basic.get", 0, "q")
		amqp.Next(s, conn)
		amqp.Told(s, conn, do(refGet, ""), errArg)
		amqp.Lost(s, conn)
	}
}
