package amqp_test

import (
	"fmt"
	"strings"
	"testing"

	"trivet/api"
)

// headed: what is left of a state in which a header is due when it has come.
func headed(s api.Amqp, size int, list []api.Prop, durable bool) api.Amqp {
	return changed(s, func(s *api.Amqp) {
		s.Want, s.Size = 1, size
		s.Pub.Msg.Props, s.Pub.Msg.Durable = list, durable
	})
}

// published: what comes of it when a publish is all there, outside of a transaction.
func published(s api.Amqp, pub api.Op) (api.Amqp, api.Act) {
	s = changed(s, func(s *api.Amqp) {
		s.Want, s.Size, s.Pub = -1, 0, api.Op{}
		if s.Confirm {
			s.Seq++
		}
	})
	return s, do(refPublish, fmt.Sprint(s.Seq), pub)
}

// pubs: states outside of a transaction in which a header is due, with and without confirms.
func pubs() map[string]api.Amqp {
	return map[string]api.Amqp{"1": headerDue(up()), "busy": headerDue(busy()), "of a topic": due(up(), "", "a.b"), "of any text": due(busy(), "", strings.Repeat("x", 255))}
}

func TestP17_1_AHeader(t *testing.T) {
	for what, s := range pubs() {
		for _, durable := range []bool{false, true} {
			for _, list := range [][]api.Prop{nil, oneProp(), allProps()} {
				for _, size := range []int{1, 2, 5, 1023, 1024} {
					leads(t, fmt.Sprint(what, ": of ", size), s, frame(2, 1, head(size, list, durable)), headed(s, size, list, durable))
				}
				// Of a body of no bytes all is there at once.
				pub := s.Pub
				pub.Msg.Props, pub.Msg.Durable = list, durable
				want, act := published(s, pub)
				leads(t, what+": of none", s, frame(2, 1, head(0, list, durable)), want, act)
			}
		}
		// Without a mode it isn't durable.
		leads(t, what+": no mode", s, frame(2, 1, raw("003c 0000 0000000000000005 0000")), headed(s, 5, nil, false))
		leads(t, what+": no mode", s, frame(2, 1, raw("003c 0000 0000000000000005 2000")+fields(oneProp())), headed(s, 5, oneProp(), false))
	}
}

func TestP17_1_HeadersThatAreNone(t *testing.T) {
	for what, s := range map[string]api.Amqp{"1": headerDue(up()), "busy": headerDue(busy()), "in tx": headerDue(inTx())} {
		for _, p := range []string{
			"", "x", head(5, nil, true)[:13], head(5, nil, true)[:14], head(5, nil, true) + "\x00", "\x00\x3d" + head(5, nil, true)[2:],
			raw("003c 0001 0000000000000005 0000"), raw("003c 0000 0000000000000005 1000 03"), raw("003c 0000 0000000000000005 8000"),
			head(5, []api.Prop{{Name: "A", Value: truth(1)}}, true), head(5, []api.Prop{{Name: "a", Value: truth(2)}}, true),
			// What has another form, too, is told ahead of the length.
			head(1025, nil, true) + "\x00",
		} {
			ends(t, fmt.Sprintf("%s: %q", what, p), s, frame(2, 1, p), 502)
		}
		for _, size := range []int{1025, 1026, 65536, 1 << 40, -1} {
			ends(t, fmt.Sprint(what, ": of ", size), s, frame(2, 1, head(size, nil, true)), 501)
			ends(t, fmt.Sprint(what, ": of ", size), s, frame(2, 1, head(size, allProps(), false)), 501)
		}
	}
}

func TestP17_1_OneWhereTheOtherIsDue(t *testing.T) {
	for what, s := range map[string]api.Amqp{"1": up(), "busy": busy(), "in tx": inTx()} {
		for _, p := range []string{"", "x", "hello", head(0, nil, true), strings.Repeat("x", 1024), strings.Repeat("x", 16384)} {
			ends(t, what+": a body ahead of the header", headerDue(s), frame(3, 1, p), 505)
		}
		for _, p := range []string{"", "no header", head(0, nil, true), head(3, nil, true), head(5, allProps(), true), head(1025, nil, true)} {
			ends(t, what+": a header behind the header", bodyDue(s), frame(2, 1, p), 505)
		}
	}
}

func TestP17_1_Bodies(t *testing.T) {
	for what, s := range pubs() {
		for _, size := range []int{1, 2, 5, 100, 1024} {
			begun := headed(s, size, allProps(), true)
			for _, first := range []int{0, 1 % size, size / 2, size - 1} {
				some := strings.Repeat("a", first)
				grown := changed(begun, func(s *api.Amqp) { s.Pub.Msg.Body = some })
				leads(t, fmt.Sprint(what, ": ", first, " of ", size), begun, frame(3, 1, some), grown)
				rest := strings.Repeat("b", size-first)
				pub := begun.Pub
				pub.Msg.Body = some + rest
				want, act := published(s, pub)
				leads(t, fmt.Sprint(what, ": the rest of ", size), grown, frame(3, 1, rest), want, act)
				for _, more := range []int{1, 2, 1024, 15000} {
					ends(t, fmt.Sprint(what, ": ", more, " more than ", size), grown, frame(3, 1, rest+strings.Repeat("c", more)), 505)
				}
				// A body of no bytes is one that changes nothing.
				leads(t, what+": nothing", grown, frame(3, 1, ""), grown)
			}
		}
	}
}

// A body in so many pieces, with beats between them.
func TestP17_1_ABodyByteByByte(t *testing.T) {
	for what, s := range pubs() {
		whole := strings.Repeat("0123456789\x00\xce\xff", 90)[:1024]
		got := next(s, frame(2, 1, head(1024, nil, false))).s
		for at := range len(whole) {
			if at%100 == 0 {
				got = next(got, frame(8, 0, "")).s
				got = next(got, frame(3, 1, "")).s
			}
			is(t, "Body", got.Pub.Msg.Body, whole[:at])
			last := next(got, frame(3, 1, whole[at:at+1]))
			if got = last.s; at < len(whole)-1 {
				is(t, what+": acts", len(last.acts), 0)
				continue
			}
			pub := s.Pub
			pub.Msg.Body = whole
			want, act := published(s, pub)
			is(t, what+": at the end", last, step{want, []api.Act{act}, true})
		}
	}
}

func TestP17_1_ConfirmsAreNumbered(t *testing.T) {
	s := next(up(), on1("confirm.select")).s
	for n := 1; n <= 40; n++ {
		s = next(next(s, on1("basic.publish", 0, "amq.topic", "a")).s, "").s
		got := next(s, content(0))
		is(t, fmt.Sprint("the one number ", n), got.acts, []api.Act{do(refPublish, fmt.Sprint(n), publishOf("a", ""))})
		is(t, "Seq", got.s.Seq, n)
		s = got.s
	}
	// What ends the channel begins to count anew.
	s = next(next(s, on1("channel.close")).s, on1("channel.open")).s
	s = next(next(s, on1("confirm.select")).s, on1("basic.publish", 0, "amq.topic", "a")).s
	is(t, "anew", next(s, content(0)).acts, []api.Act{do(refPublish, "1", publishOf("a", ""))})
	// Without confirms none is counted.
	s = up()
	for range 3 {
		s = next(s, on1("basic.publish", 0, "amq.topic", "a")).s
		got := next(s, content(0))
		is(t, "without confirms", got, step{up(), []api.Act{do(refPublish, "0", publishOf("a", ""))}, true})
		s = got.s
	}
}

func TestP17_1_PublishesInATransaction(t *testing.T) {
	for count := range 17 {
		for _, size := range []int{0, 5} {
			s := headerDue(inTxWith(count, 7))
			pub := s.Pub
			pub.Msg.Props, pub.Msg.Durable = allProps(), true
			in := frame(2, 1, head(size, allProps(), true))
			if size > 0 {
				s = next(s, in).s
				pub.Msg.Body, in = "hello", frame(3, 1, "hello")
			}
			what := fmt.Sprint(count, " operations, and a publish of ", size)
			if count == 16 {
				shuts(t, what, s, in, 506)
				continue
			}
			want := inTxWith(count, 7)
			want.Ops = append(want.Ops, pub)
			leads(t, what, s, in, want)
		}
	}
	// Only when all is there it is told that there is no room.
	s := headerDue(inTxWith(16))
	leads(t, "the header of one too many", s, frame(2, 1, head(5, nil, false)), headed(s, 5, nil, false))
	s = headed(s, 5, nil, false)
	leads(t, "a piece of one too many", s, frame(3, 1, "hell"), changed(s, func(s *api.Amqp) { s.Pub.Msg.Body = "hell" }))
}
