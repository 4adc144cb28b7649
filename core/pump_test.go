package core_test

import (
	"fmt"
	"math/rand"
	"testing"

	"trivet/api"
)

// idle: operations that find nothing to do, so that the pump alone is seen.
var idle = map[string]api.Op{
	"Tick":    {Kind: tick},
	"Release": {Kind: release, Text: "nobody", N: 1},
	"Forget":  {Kind: forget, Text: "nobody"},
	"Detach":  {Kind: detach, Conn: 6},
	"Publish": {Kind: publish, Msg: api.Msg{Topic: "to.no.queue"}},
	"Repeat":  {Kind: publish, Msg: api.Msg{Topic: "q"}, Queue: "q", Text: "me", N: 7},
	"Declare": {Kind: declare, Queue: "q", N: 9},
	"Bind":    {Kind: bind, Queue: "q", Text: "q"},
}

// waiting: a core with a queue q of depth 9 in which these wait, from number 1 on.
func waiting(bodies ...string) api.Core {
	q := api.Queue{Name: "q", Depth: 9, Seq: len(bodies)}
	for n, body := range bodies {
		q.Items = append(q.Items, api.Item{Seq: n + 1, Msg: api.Msg{Topic: "t", Body: body}})
	}
	return api.Core{Now: 50, Queues: []api.Queue{q}, Binds: []api.Bind{{Queue: "q", Pattern: "q"}}, Clients: []api.Client{{Name: "me", Packets: []int{7}}}}
}

// Behind each operation it is pumped, one that does nothing too.
func TestP11_3_BehindEachOperation(t *testing.T) {
	for what, o := range idle {
		c := waiting("x", "y", "z")
		c.Subs = []api.Sub{{Conn: 2, Sub: 5, Queue: "q", Window: 2}}
		c.Queues[0].Items[1].Again = true
		a := do(c, o)
		after := done(t, what, a)
		handed(t, what, a.out, "2/5#1 q:x", "2/5#2 q:y+")
		stands(t, what, after, "q", "z", "1:x 2:y")
		// And nothing more is done.
		leads(t, what+" once more", do(after, o), after)
	}
}

func TestP11_3_TheFirstThatMay(t *testing.T) {
	c := waiting("1", "2", "3", "4", "5", "6", "7", "8")
	c.Subs = []api.Sub{
		{Conn: 0, Sub: 9, Queue: "q", Window: 2},
		{Conn: 1, Sub: 0, Queue: "q", Window: 1},
		{Conn: 1, Sub: 1, Queue: "q", Window: 3},
	}
	a := do(c, api.Op{Kind: tick})
	after := done(t, "three", a)
	handed(t, "three", a.out, "0/9#1 q:1", "0/9#2 q:2", "1/0#3 q:3", "1/1#4 q:4", "1/1#5 q:5", "1/1#6 q:6")
	stands(t, "three", after, "q", "7 8", "1:1 2:2 3:3 4:4 5:5 6:6")
	// Who has room again is the next one; the others play no part.
	a = do(after, api.Op{Kind: ack, Conn: 1, Queue: "q", N: 5})
	handed(t, "the last has room", a.out, "1/1#7 q:7")
	a = do(done(t, "Ack", a), api.Op{Kind: nack, Conn: 0, Queue: "q", N: 1, Auto: true})
	handed(t, "the first has room", a.out, "0/9#8 q:1+")
	// One with Auto takes all that comes to it, and nobody behind it gets anything.
	c.Subs[1].Auto = true
	a = do(c, api.Op{Kind: tick})
	after = done(t, "Auto", a)
	handed(t, "Auto", a.out, "0/9#1 q:1", "0/9#2 q:2", "1/0#0 q:3", "1/0#0 q:4", "1/0#0 q:5", "1/0#0 q:6", "1/0#0 q:7", "1/0#0 q:8")
	stands(t, "Auto", after, "q", "", "1:1 2:2")
	if q := after.Queues[0]; q.Tag != 2 || q.Seq != 8 {
		t.Errorf("Auto: %+v", q)
	}
}

// What is held by Gets, or by numbers of a subscription that was there before, counts for the one that has the numbers now; what is held of another queue doesn't.
func TestP11_3_WhatAWindowCounts(t *testing.T) {
	c := waiting("x", "y", "z")
	c, out := row(t, c, api.Op{Kind: get, Conn: 3, Sub: 4, Queue: "q"}, api.Op{Kind: subscribe, Conn: 3, Sub: 4, Queue: "q", N: 2})
	handed(t, "a Get counts", out, "3/4#1 q:x", "3/4#2 q:y")
	c = waiting("x", "y", "z")
	c, out = row(t, c, api.Op{Kind: get, Conn: 3, Sub: 4, Queue: "q"}, api.Op{Kind: get, Conn: 3, Sub: 4, Queue: "q"}, api.Op{Kind: subscribe, Conn: 3, Sub: 4, Queue: "q", N: 1})
	handed(t, "more than the window", out, "3/4#1 q:x", "3/4#2 q:y")
	_, out = row(t, c, api.Op{Kind: ack, Conn: 3, Queue: "q", N: 1})
	handed(t, "just the window", out)
	_, out = row(t, c, api.Op{Kind: ack, Conn: 3, Queue: "q", N: 1}, api.Op{Kind: ack, Conn: 3, Queue: "q", N: 2})
	handed(t, "below the window", out, "3/4#3 q:z")
	// With Auto the window plays no part.
	_, out = row(t, waiting("x", "y", "z"), api.Op{Kind: get, Conn: 3, Sub: 4, Queue: "q"}, api.Op{Kind: subscribe, Conn: 3, Sub: 4, Queue: "q", N: 1, Auto: true})
	handed(t, "a full window, Auto", out, "3/4#1 q:x", "3/4#0 q:y", "3/4#0 q:z")
	// Of other queues, connections and subscriptions.
	c = waiting("x", "y", "z")
	c.Queues = append(c.Queues, api.Queue{Name: "r", Depth: 9, Seq: 2, Tag: 2, Held: []api.Held{{Tag: 1, Conn: 3, Sub: 4, Item: item(1, "r")}, {Tag: 2, Conn: 3, Sub: 4, Item: item(2, "r")}}})
	_, out = row(t, c, api.Op{Kind: get, Conn: 4, Sub: 3, Queue: "q"}, api.Op{Kind: subscribe, Conn: 3, Sub: 4, Queue: "q", N: 1})
	handed(t, "others play no part", out, "4/3#1 q:x", "3/4#2 q:y")
}

// Queue by queue, in their order, whatever the order of the subscriptions.
func TestP11_3_QueueByQueue(t *testing.T) {
	c := waiting("x", "y")
	p := api.Queue{Name: "p", Depth: 3, Seq: 7, Tag: 6, Items: []api.Item{item(6, "p6"), item(7, "p7")}}
	r := api.Queue{Name: "r", Depth: 1, Seq: 1, Items: []api.Item{item(1, "r1")}}
	c.Queues = []api.Queue{p, c.Queues[0], r}
	c.Subs = []api.Sub{{Conn: 0, Queue: "r", Window: 1}, {Conn: 1, Queue: "q", Window: 1}, {Conn: 2, Queue: "p", Window: 1, Auto: true}, {Conn: 3, Queue: "q", Window: 1}}
	a := do(c, api.Op{Kind: tick})
	done(t, "three queues", a)
	handed(t, "three queues", a.out, "2/0#0 p:p6", "2/0#0 p:p7", "1/0#1 q:x", "3/0#2 q:y", "0/0#1 r:r1")
	// What a Get hands out goes ahead.
	a = do(c, api.Op{Kind: get, Conn: 5, Sub: 5, Queue: "r"})
	done(t, "a Get", a)
	handed(t, "a Get", a.out, "5/5#1 r:r1", "2/0#0 p:p6", "2/0#0 p:p7", "1/0#1 q:x", "3/0#2 q:y")
}

// What is no more at Now goes to nobody; one tick ahead of it, it does.
func TestP11_3_WhatIsNoMoreGoesToNobody(t *testing.T) {
	for what, o := range idle {
		for until, want := range map[int]string{49: "1/1#1 q:y", 50: "1/1#1 q:y", 51: "1/1#1 q:x", 1: "1/1#1 q:y", 0: "1/1#1 q:x"} {
			c := waiting("x", "y")
			c.Queues[0].Items[0].Msg.Until = until
			c.Subs = []api.Sub{{Conn: 1, Sub: 1, Queue: "q", Window: 1}}
			a := do(c, o)
			done(t, what, a)
			handed(t, fmt.Sprint(what, ", Until ", until), a.out, want)
			// Without a subscription it goes too.
			c.Subs = nil
			after := done(t, what, do(c, o))
			stays := "x y"
			if want == "1/1#1 q:y" {
				stays = "y"
			}
			stands(t, fmt.Sprint(what, ", Until ", until, ", nobody subscribed"), after, "q", stays, "")
		}
	}
}

// An error of Take is the operation's: nothing is done.
func TestP11_3_TheLastTag(t *testing.T) {
	for what, o := range idle {
		for _, auto := range []bool{true, false} {
			c := waiting("x", "y")
			c.Queues[0].Tag = maxNum
			c.Subs = []api.Sub{{Queue: "q", Window: 2, Auto: auto}}
			refused(t, what, do(c, o), errArg)
			// One below it one can be handed out; the next one can't, but for a full window.
			c.Queues[0].Tag = maxNum - 1
			a := do(c, o)
			if auto {
				done(t, what, a)
				handed(t, what, a.out, "0/0#0 q:x", "0/0#0 q:y")
				continue
			}
			refused(t, what, a, errArg)
			c.Subs[0].Window = 1
			a = do(c, o)
			done(t, what, a)
			handed(t, what, a.out, "0/0#1099511627776 q:x")
		}
		// Where nobody may have it, or nothing waits, no tag is asked for.
		c := waiting("x")
		c.Queues[0].Tag = maxNum
		leads(t, what, do(c, o), c)
		c.Queues[0].Items = nil
		c.Subs = []api.Sub{{Queue: "q", Window: 2}}
		leads(t, what, do(c, o), c)
	}
}

// pumped: what waits and shouldn't, as a text.
func pumped(c api.Core) string {
	for _, q := range c.Queues {
		for _, i := range q.Items {
			if i.Msg.Until > 0 && i.Msg.Until <= c.Now {
				return fmt.Sprintf("%s is no more", i.Msg.Body)
			}
		}
		for _, s := range c.Subs {
			held := 0
			for _, h := range q.Held {
				if h.Conn == s.Conn && h.Sub == s.Sub {
					held++
				}
			}
			if len(q.Items) > 0 && s.Queue == q.Name && (s.Auto || held < s.Window) {
				return fmt.Sprintf("%+v could have what waits in %s", s, q.Name)
			}
		}
	}
	return ""
}

func TestP11_3_LongRows(t *testing.T) {
	r := rand.New(rand.NewSource(113))
	out, waited := 0, 0
	for range 400 {
		c := someStart(r)
		for n := range 100 {
			o := someOp(r, c, n)
			a := do(c, o)
			if a.err != ok {
				continue
			}
			if why := pumped(a.core); why != "" {
				t.Fatalf("%+v: %s", o, why)
			}
			if c = a.core; len(a.out) > 0 {
				out++
			}
			for _, q := range c.Queues {
				waited += len(q.Items)
			}
		}
	}
	if out < 2000 || waited < 2000 {
		t.Errorf("just %d times something was handed out, %d waited", out, waited)
	}
}
