package stomp_test

import (
	"fmt"
	"slices"
	"strings"
	"testing"

	"trivet/api"
	"trivet/stomp"
)

// subscribed: what comes of a SUBSCRIBE: to a place, by an id.
func subscribed(s api.Stomp, id string, p place, auto bool, receipt string) (api.Stomp, api.Act) {
	queue := p.name
	ops := []api.Op{{Kind: opDeclare, Queue: queue, Durable: true, N: 64}}
	if !p.queue {
		queue = fmt.Sprint("s", me, "-", s.Count+1)
		ops = []api.Op{{Kind: opDeclare, Queue: queue, N: 64}, {Kind: opBind, Queue: queue, Text: p.name}}
	}
	return changed(s, func(s *api.Stomp) {
		s.Count++
		s.Subs = append(s.Subs, api.Named{Name: id, Sub: s.Count, Queue: queue, Auto: auto})
	}), do(receipt, append(ops, api.Op{Kind: opSubscribe, Conn: me, Sub: s.Count + 1, Queue: queue, N: 32, Auto: auto})...)
}

// subscribable: states with room for one more subscription.
func subscribable() map[string]api.Stomp {
	seven := changed(filled(), func(s *api.Stomp) { s.Subs = s.Subs[:7] })
	return map[string]api.Stomp{"up": up(), "busy": busy(), "seven": seven}
}

func TestP19_1_Subscribe(t *testing.T) {
	queues, topics, patterns := places()
	for what, s := range subscribable() {
		for _, p := range slices.Concat(queues, topics, patterns) {
			want, act := subscribed(s, "new", p, true, "")
			leads(t, what+" to "+p.destination, s, line("SUBSCRIBE", "id", "new", "destination", p.destination), want, act)
			leads(t, what+" to "+p.destination+", auto", s, line("SUBSCRIBE", "ack", "auto", "destination", p.destination, "id", "new", "id", "z", "destination", "x"), want, act)
			want, act = subscribed(s, "new", p, false, "r")
			leads(t, what+" to "+p.destination+", client-individual", s, wire("SUBSCRIBE", "body", "receipt", "r", "id", "new", "destination", p.destination, "ack", "client-individual", "ack", "auto", "transaction", "none"), want, act)
		}
		for _, destination := range nowhere {
			ends(t, what+" to "+destination, s, line("SUBSCRIBE", "id", "new", "destination", destination), "destination")
		}
		for _, ack := range []string{"", "client", "Auto", "auto ", " auto", "client-individua", "client-individuals", "Client-individual", "client_individual", "auto,client-individual", "none"} {
			ends(t, what+": ack "+ack, s, line("SUBSCRIBE", "id", "new", "destination", "/queue/q", "ack", ack), "ack")
			ends(t, what+": ack "+ack+" first", s, line("SUBSCRIBE", "ack", ack, "id", "new", "destination", "/topic/a", "ack", "auto"), "ack")
		}
	}
}

func TestP19_1_SubscribeIds(t *testing.T) {
	p := place{"/topic/a.*", false, "a.*"}
	for what, s := range subscribable() {
		for _, id := range []string{"new", "x", " ", "\x00", "a:b\r\n\\", "Z", "zz", "00", long(255), long(256), strings.Repeat("\n", 256)} {
			want, act := subscribed(s, id, p, true, "")
			leads(t, fmt.Sprintf("%s: %.30q", what, id), s, line("SUBSCRIBE", "id", id, "destination", p.destination), want, act)
			ends(t, fmt.Sprintf("%s: %.30q twice", what, id), want, line("SUBSCRIBE", "id", id, "destination", p.destination), "id")
		}
		for _, id := range []string{long(257), long(5000), strings.Repeat("\n", 257)} {
			ends(t, fmt.Sprintf("%s: %.30q", what, id), s, line("SUBSCRIBE", "id", id, "destination", p.destination), "id")
		}
		for _, n := range s.Subs {
			ends(t, what+": "+n.Name, s, line("SUBSCRIBE", "id", n.Name, "destination", p.destination), "id")
		}
	}
}

// Eight subscriptions and a ninth: each with its own number, and its own queue, in their order.
func TestP19_1_HowManySubscriptions(t *testing.T) {
	_, _, patterns := places()
	s := up()
	for n := range 8 {
		p := []place{{"/queue/q", true, "q"}, patterns[n%len(patterns)]}[n%2]
		id := fmt.Sprint(9 - n)
		want, act := subscribed(s, id, p, n%3 != 0, "")
		in := line("SUBSCRIBE", "id", id, "destination", p.destination, "ack", []string{"client-individual", "auto", "auto"}[n%3])
		leads(t, fmt.Sprint("subscription ", n+1), s, in, want, act)
		s = want
	}
	ends(t, "a ninth one", s, line("SUBSCRIBE", "id", "new", "destination", "/queue/q"), "id")
	// When one is no more there is room for another one, by a number of its own.
	gone := next(s, line("UNSUBSCRIBE", "id", "5")).s
	is(t, "how many", len(gone.Subs), 7)
	for _, id := range []string{"5", "new"} {
		want, act := subscribed(gone, id, patterns[0], true, "")
		is(t, "Count", want.Count, 9)
		is(t, "the queue", want.Subs[7].Queue, "s3-9")
		leads(t, "one in its place", gone, line("SUBSCRIBE", "id", id, "destination", patterns[0].destination), want, act)
		ends(t, "and one more", want, line("SUBSCRIBE", "id", "more", "destination", "/queue/q"), "id")
	}
}

// Count goes on, whatever became of the subscriptions, and queues are called by it.
func TestP19_1_CountGoesOn(t *testing.T) {
	s := up()
	for n := 1; n <= 120; n++ {
		got := next(s, line("SUBSCRIBE", "id", "x", "destination", "/topic/a"))
		own := fmt.Sprint("s3-", n)
		is(t, own, got, step{api.Stomp{Up: true, Count: n, Subs: []api.Named{{Name: "x", Sub: n, Queue: own, Auto: true}}}, []api.Act{do("", api.Op{Kind: opDeclare, Queue: own, N: 64}, api.Op{Kind: opBind, Queue: own, Text: "a"}, api.Op{Kind: opSubscribe, Conn: me, Sub: n, Queue: own, N: 32, Auto: true})}, true})
		got = next(got.s, line("UNSUBSCRIBE", "id", "x"))
		is(t, own+", gone", got, step{api.Stomp{Up: true, Count: n}, []api.Act{do("", api.Op{Kind: opUnsubscribe, Conn: me, Sub: n}, api.Op{Kind: opDelete, Queue: own})}, true})
		s = got.s
	}
}

// Which word comes first where several could.
func TestP19_1_SubscribeTheFirstWord(t *testing.T) {
	for what, s := range opened() {
		for _, id := range []string{"", long(257), "z", "id0"} {
			if id == "z" && what != "busy" || id == "id0" && what != "filled" {
				continue
			}
			ends(t, what, s, line("SUBSCRIBE", "ack", "x", "destination", "x", "id", id), "id")
			ends(t, what, s, line("SUBSCRIBE", "ack", "x", "id", id), "id")
			ends(t, what, s, line("SUBSCRIBE", "ack", "x", "destination", "x", "id", id, "receipt", long(257)), "receipt")
		}
		word := map[string]string{"up": "destination", "busy": "destination", "filled": "id"}[what]
		for _, destination := range []string{"", "x", "/topic/a..b"} {
			ends(t, what, s, line("SUBSCRIBE", "ack", "x", "destination", destination, "id", "new"), word)
		}
		ends(t, what, s, line("SUBSCRIBE", "ack", "", "id", "new"), word)
	}
}

func TestP19_1_Unsubscribe(t *testing.T) {
	for what, s := range opened() {
		for at, n := range s.Subs {
			want := changed(s, func(s *api.Stomp) {
				s.Subs = slices.Delete(s.Subs, at, at+1)
				s.Given = nil
			})
			for _, g := range s.Given {
				if g.Sub != n.Sub {
					want.Given = append(want.Given, g)
				}
			}
			ops := []api.Op{{Kind: opUnsubscribe, Conn: me, Sub: n.Sub}}
			if n.Queue == fmt.Sprint("s3-", n.Sub) {
				ops = append(ops, api.Op{Kind: opDelete, Queue: n.Queue})
			}
			for _, r := range []string{"", "r"} {
				in := line("UNSUBSCRIBE", "id", n.Name, "receipt", r, "id", "other", "destination", "x", "transaction", "none of these")
				leads(t, what+": "+n.Name, s, in, want, do(r, ops...))
				ends(t, what+": "+n.Name+" twice", want, in, "id")
			}
			for _, g := range s.Given {
				if g.Sub == n.Sub {
					ends(t, what+": what was given of "+n.Name, want, line("ACK", "id", fmt.Sprint(g.Num)), "id")
				}
			}
		}
		for _, id := range []string{"", "new", "Z", "z ", " z", "1", "00", long(256), long(257), "\x00"} {
			ends(t, what+": "+id, s, line("UNSUBSCRIBE", "id", id), "id")
		}
		ends(t, what+": only the first counts", s, line("UNSUBSCRIBE", "id", "none", "id", "z", "id", "id0"), "id")
	}
	// A queue is a subscription's own just if it is called by both numbers.
	for queue, own := range map[string]bool{"s3-2": true, "s3-1": false, "s3-22": false, "s2-2": false, "s3-": false, "s3": false, "x3-2": false, "s3_2": false, "S3-2": false, "q": false, "ss3-2": false, "s33-2": false, "s3-02": false} {
		s := up()
		s.Count, s.Subs = 5, []api.Named{{Name: "x", Sub: 2, Queue: queue}}
		ops, lost := []api.Op{{Kind: opUnsubscribe, Conn: me, Sub: 2}}, []api.Op{{Kind: opDetach, Conn: me}}
		if own {
			ops, lost = append(ops, api.Op{Kind: opDelete, Queue: queue}), append(lost, api.Op{Kind: opDelete, Queue: queue})
		}
		leads(t, queue, s, line("UNSUBSCRIBE", "id", "x"), changed(s, func(s *api.Stomp) { s.Subs = nil }), do("", ops...))
		is(t, queue+": Lost", stomp.Lost(s, me), lost)
	}
}

// What a transaction has of a subscription that is no more stays in it.
func TestP19_1_UnsubscribeAndTransactions(t *testing.T) {
	s := next(busy(), line("ACK", "id", "2", "transaction", "none")).s
	s = next(s, line("UNSUBSCRIBE", "id", "z")).s
	is(t, "given", s.Given, []api.Given{{Num: 5, Sub: 6, Queue: "s3-6", Tag: 3}, {Num: 10, Sub: 6, Queue: "s3-6", Tag: 4}})
	is(t, "COMMIT", next(s, line("COMMIT", "transaction", "none")).acts, []api.Act{do("", api.Op{Kind: opAck, Conn: me, Queue: "q", N: 20})})
}

func TestP19_1_Lost(t *testing.T) {
	detach := api.Op{Kind: opDetach, Conn: me}
	for what, c := range map[string]struct {
		s    api.Stomp
		want []api.Op
	}{
		"fresh":  {fresh(), []api.Op{detach}},
		"up":     {up(), []api.Op{detach}},
		"busy":   {busy(), []api.Op{detach, {Kind: opDelete, Queue: "s3-5"}, {Kind: opDelete, Queue: "s3-6"}}},
		"filled": {filled(), []api.Op{detach, {Kind: opDelete, Queue: "s3-0"}, {Kind: opDelete, Queue: "s3-14"}, {Kind: opDelete, Queue: "s3-28"}, {Kind: opDelete, Queue: "s3-42"}}},
	} {
		is(t, what, stomp.Lost(c.s, me), c.want)
		is(t, what+", down", stomp.Lost(downed(c.s), me), c.want)
		is(t, what+", disconnected", stomp.Lost(next(c.s, line("DISCONNECT")).s, me), c.want)
		is(t, what+", ended by a word", stomp.Lost(next(c.s, line("FOO")).s, me), c.want)
		is(t, what+", twice", stomp.Lost(c.s, me), c.want)
	}
	// In the order of the subscriptions.
	s := busy()
	slices.Reverse(s.Subs)
	is(t, "in their order", stomp.Lost(s, me), []api.Op{detach, {Kind: opDelete, Queue: "s3-6"}, {Kind: opDelete, Queue: "s3-5"}})
	is(t, "on another connection none has its own", stomp.Lost(busy(), 0), []api.Op{{Kind: opDetach}})
}
