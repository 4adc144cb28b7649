package core_test

import (
	"fmt"
	"math/rand"
	"slices"
	"testing"

	"trivet/api"
	"trivet/core"
)

// routes: a core with queues a to e, each with a pattern or more.
func routes(t *testing.T, depth int) api.Core {
	t.Helper()
	var c api.Core
	for _, name := range []string{"a", "b", "c", "d", "e", "f"} {
		c, _ = row(t, c, api.Op{Kind: declare, Queue: name, N: depth})
	}
	for _, b := range [][2]string{{"a", "#"}, {"a", "x.*"}, {"a", "x.y"}, {"b", "x.*"}, {"c", "x.#"}, {"d", "*"}, {"e", "x.y"}, {"e", "z"}} {
		c, _ = row(t, c, api.Op{Kind: bind, Queue: b[0], Text: b[1]})
	}
	return c
}

// got: in which queues a message of this body waits, each as often as it does.
func got(c api.Core, body string) string {
	s := ""
	for _, q := range c.Queues {
		for _, i := range q.Items {
			if i.Msg.Body == body {
				s += q.Name
			}
		}
	}
	return s
}

func TestP11_4_EachQueueOnce(t *testing.T) {
	c := routes(t, 3)
	for topic, want := range map[string]string{"x.y": "abce", "x": "acd", "x.y.z": "ac", "z": "ade", "x.z": "abc", "n.n": "a"} {
		after, out := row(t, c, api.Op{Kind: publish, Msg: rich(topic, "m")})
		if handed(t, topic, out); got(after, "m") != want {
			t.Errorf("%s goes to %q, not %q", topic, got(after, "m"), want)
		}
	}
	// Straight to a queue: the patterns play no part.
	for _, name := range []string{"a", "c", "f"} {
		after, _ := row(t, c, api.Op{Kind: publish, Queue: name, Msg: rich("x.y", "m")})
		if got(after, "m") != name {
			t.Errorf("straight to %s: it goes to %q", name, got(after, "m"))
		}
	}
	for _, name := range []string{"g", "A", "x.y", "0"} {
		refused(t, "straight to "+name, do(c, api.Op{Kind: publish, Queue: name, Msg: rich("x.y", "m")}), errNone)
	}
	// To no queue: it is published all the same.
	c, _ = row(t, c, api.Op{Kind: unbind, Queue: "a", Text: "#"})
	leads(t, "to no queue", do(c, api.Op{Kind: publish, Msg: rich("n.n", "m")}), c)
	leads(t, "without any queue", do(api.Core{}, api.Op{Kind: publish, Msg: rich("n.n", "m")}), api.Core{})
}

func TestP11_1_Publish(t *testing.T) {
	m := rich("n.o", "new")
	want := base()
	want.Queues[0].Seq, want.Queues[1].Seq = 10, 5
	want.Queues[0].Items = append(want.Queues[0].Items, api.Item{Seq: 10, Msg: m})
	want.Queues[1].Items = append(want.Queues[1].Items, api.Item{Seq: 5, Msg: m})
	leads(t, "by patterns", do(base(), api.Op{Kind: publish, Msg: m}), want)
	leads(t, "N and the other fields play no part", do(base(), api.Op{Kind: publish, Msg: m, N: -5, Conn: 99, Sub: -1, Durable: true, Auto: true}), want)
	want = base()
	want.Queues[3].Seq, want.Queues[3].Tag = 1, 1
	want.Queues[3].Held = []api.Held{{Tag: 1, Conn: 1, Sub: 7, Item: api.Item{Seq: 1, Msg: m}}}
	leads(t, "straight to d", do(base(), api.Op{Kind: publish, Msg: m, Queue: "d"}), want, api.Out{Conn: 1, Sub: 7, Tag: 1, Queue: "d", Msg: m})
	for what, m := range wrongMsgs() {
		refused(t, what, do(base(), api.Op{Kind: publish, Msg: m}), errMsg)
		refused(t, what, do(base(), api.Op{Kind: publish, Msg: m, Queue: "e", Keep: true, Text: "A"}), errMsg)
	}
	last := with(func(c *api.Core) { c.Queues[0].Seq = maxNum })
	refused(t, "the last number", do(last, api.Op{Kind: publish, Msg: m}), errArg)
	refused(t, "the last number, straight", do(last, api.Op{Kind: publish, Msg: m, Queue: "a"}), errArg)
	leads(t, "the last number of another", do(last, api.Op{Kind: publish, Msg: rich("full", "x"), Queue: "d"}),
		with(func(c *api.Core) {
			c.Queues[0].Seq, c.Queues[3].Seq, c.Queues[3].Tag = maxNum, 1, 1
			c.Queues[3].Held = []api.Held{{Tag: 1, Conn: 1, Sub: 7, Item: api.Item{Seq: 1, Msg: rich("full", "x")}}}
		}), api.Out{Conn: 1, Sub: 7, Tag: 1, Queue: "d", Msg: rich("full", "x")})
}

func TestP11_4_FullIsForNone(t *testing.T) {
	for _, full := range []string{"a", "b", "c", "e"} {
		c := routes(t, 2)
		fill := api.Op{Kind: publish, Queue: full, Msg: rich("fill", "fill")}
		c, _ = row(t, c, fill, fill)
		refused(t, full+" is full", do(c, api.Op{Kind: publish, Msg: rich("x.y", "m"), Keep: true, Text: "me", N: 1}), errDeep)
		refused(t, full+" is full, straight", do(c, fill), errDeep)
		if after, _ := row(t, c, api.Op{Kind: publish, Msg: rich("z", "m"), Queue: "d"}); got(after, "m") != "d" {
			t.Errorf("past a full queue: %q", got(after, "m"))
		}
		// Full of what is held: that counts.
		held, out := row(t, c, api.Op{Kind: get, Queue: full}, api.Op{Kind: get, Queue: full})
		if len(out) != 2 {
			t.Fatal(told(out))
		}
		refused(t, full+" is full of what is held", do(held, api.Op{Kind: publish, Msg: rich("x.y", "m")}), errDeep)
		held, _ = row(t, held, api.Op{Kind: ack, Queue: full, N: 2}, api.Op{Kind: publish, Msg: rich("x.y", "m")})
		if got(held, "m") != "abce" {
			t.Errorf("with room again: %q", got(held, "m"))
		}
	}
	// Who is subscribed makes no room: it is pumped behind the publish.
	c, _ := row(t, api.Core{}, api.Op{Kind: declare, Queue: "q", N: 1}, api.Op{Kind: subscribe, Queue: "q", N: 32})
	put := api.Op{Kind: publish, Queue: "q", Msg: rich("m", "m")}
	c, out := row(t, c, put)
	handed(t, "the first", out, "0/0#1 q:m")
	refused(t, "the second", do(c, put), errDeep)
	// With Auto there is always room.
	c, _ = row(t, api.Core{}, api.Op{Kind: declare, Queue: "q", N: 1}, api.Op{Kind: subscribe, Queue: "q", N: 1, Auto: true})
	_, out = row(t, c, put, put, put)
	handed(t, "Auto", out, "0/0#0 q:m", "0/0#0 q:m", "0/0#0 q:m")
	// What is no more and waits still fills it: it goes behind the publish alone.
	old := api.Core{Now: 9, Queues: []api.Queue{{Name: "q", Depth: 1, Seq: 1, Items: []api.Item{{Seq: 1, Msg: api.Msg{Topic: "x", Until: 9}}}}}}
	refused(t, "full of what is no more", do(old, put), errDeep)
}

func TestP11_4_64Deep(t *testing.T) {
	c, _ := row(t, api.Core{}, api.Op{Kind: declare, Queue: "q", N: 64}, api.Op{Kind: bind, Queue: "q", Text: "m"})
	for n := range 64 {
		c, _ = row(t, c, api.Op{Kind: publish, Msg: rich("m", fmt.Sprint(n))})
	}
	refused(t, "the 65th", do(c, api.Op{Kind: publish, Msg: rich("m", "more")}), errDeep)
	c, out := row(t, c, api.Op{Kind: subscribe, Queue: "q", N: 32}, api.Op{Kind: subscribe, Sub: 1, Queue: "q", N: 32})
	if len(out) != 64 || out[31].Sub != 0 || out[32].Sub != 1 || out[63].Tag != 64 || out[63].Msg.Body != "63" {
		t.Errorf("64 are handed out: %s", told(out))
	}
	refused(t, "the 65th, all held", do(c, api.Op{Kind: publish, Msg: rich("m", "more")}), errDeep)
}

func TestP11_4_Until(t *testing.T) {
	for until, want := range map[int]bool{0: true, 1: false, 49: false, 50: false, 51: true, maxNum: true} {
		m := rich("n.o", "m")
		m.Until = until
		c, _ := row(t, base(), api.Op{Kind: publish, Msg: m})
		if (got(c, "m") == "ab") != want || !want && !same(c, base()) {
			t.Errorf("Until %d: it goes to %q", until, got(c, "m"))
		}
		// Straight too, and with a packet, which counts even so.
		c, _ = row(t, base(), api.Op{Kind: publish, Msg: m, Queue: "b", Text: "me", N: 9})
		if (got(c, "m") == "b") != want || !slices.Contains(c.Clients[0].Packets, 9) {
			t.Errorf("Until %d, straight: it goes to %q", until, got(c, "m"))
		}
		refused(t, fmt.Sprint("Until ", until, ", no queue"), do(base(), api.Op{Kind: publish, Msg: m, Queue: "e"}), errNone)
		// What isn't pushed meets no full queue; it is retained all the same.
		a := do(with(func(c *api.Core) { c.Queues[0].Depth = 5 }), api.Op{Kind: publish, Msg: m, Keep: true})
		if want {
			refused(t, fmt.Sprint("Until ", until, ", full"), a, errDeep)
		} else if c = done(t, "full", a); !slices.ContainsFunc(c.Kept, func(k api.Msg) bool { return same(k, m) }) {
			t.Errorf("Until %d: it isn't retained", until)
		}
	}
	// At tick 0 no Until is at most Now.
	c, _ := row(t, routes(t, 1), api.Op{Kind: publish, Msg: api.Msg{Topic: "x", Body: "m", Until: 1}})
	if got(c, "m") != "acd" {
		t.Errorf("Until 1 at 0: it goes to %q", got(c, "m"))
	}
}

func TestP11_4_APacketGoesOnce(t *testing.T) {
	c := routes(t, 9)
	send := func(client string, n int, body string) api.Op {
		return api.Op{Kind: publish, Msg: rich("x.y", body), Text: client, N: n, Keep: true}
	}
	c, _ = row(t, c, send("me", 7, "first"))
	// Whatever the message is: the packet is there.
	leads(t, "again", do(c, send("me", 7, "second")), c)
	leads(t, "again, retained no more", do(c, send("me", 7, "")), c)
	leads(t, "again, to no queue", do(c, api.Op{Kind: publish, Queue: "zz", Msg: rich("x.y", "second"), Text: "me", N: 7}), c)
	refused(t, "again, no message", do(c, api.Op{Kind: publish, Text: "me", N: 7}), errMsg)
	if got(c, "first") != "abce" {
		t.Errorf("it goes to %q", got(c, "first"))
	}
	is(t, "the clients", c.Clients, []api.Client{{Name: "me", Packets: []int{7}}})
	// Another packet, another client: others.
	c, _ = row(t, c, send("me", 6, "third"), send("you", 7, "fourth"), send("a", 65535, "fifth"), send("a", 1, "sixth"))
	for _, body := range []string{"third", "fourth", "fifth", "sixth"} {
		if got(c, body) != "abce" {
			t.Errorf("%s goes to %q", body, got(c, body))
		}
	}
	is(t, "the clients", c.Clients, []api.Client{{Name: "a", Packets: []int{1, 65535}}, {Name: "me", Packets: []int{6, 7}}, {Name: "you", Packets: []int{7}}})
	// Behind its release it is a new one.
	c, _ = row(t, c, api.Op{Kind: release, Text: "me", N: 7}, send("me", 7, "new"))
	leads(t, "the new one again", do(c, send("me", 7, "newer")), c)
	if got(c, "new") != "abce" {
		t.Errorf("behind its release it goes to %q", got(c, "new"))
	}
	c, _ = row(t, c, api.Op{Kind: forget, Text: "me"}, send("me", 6, "newest"))
	if got(c, "newest") != "abce" {
		t.Errorf("behind a Forget it goes to %q", got(c, "newest"))
	}
}

// A publish that is refused leaves no packet: it may come once more.
func TestP11_4_ARefusedPacketMayComeAgain(t *testing.T) {
	c, _ := row(t, routes(t, 1), api.Op{Kind: publish, Queue: "e", Msg: rich("x.y", "fill")})
	o := api.Op{Kind: publish, Msg: rich("x.y", "m"), Text: "me", N: 7}
	refused(t, "full", do(c, o), errDeep)
	c, _ = row(t, c, api.Op{Kind: get, Queue: "e", Auto: true}, o)
	if got(c, "m") != "abce" || len(c.Clients) != 1 {
		t.Errorf("it goes to %q", got(c, "m"))
	}
}

func TestP11_1_Packets(t *testing.T) {
	send := func(client string, n int) api.Op {
		return api.Op{Kind: publish, Msg: rich("none", "x"), Text: client, N: n}
	}
	for _, n := range []int{1, 2, 65534, 65535} {
		leads(t, fmt.Sprint("the packet ", n), do(api.Core{}, send("me", n)), api.Core{Clients: []api.Client{{Name: "me", Packets: []int{n}}}})
	}
	for _, n := range packetless {
		refused(t, fmt.Sprint("the packet ", n), do(base(), send("me", n)), errArg)
		refused(t, fmt.Sprint("the packet ", n, " of a new client"), do(base(), send("new", n)), errArg)
		refused(t, fmt.Sprint("the packet ", n, " of no client"), do(base(), send("A", n)), errName)
	}
	for _, name := range nameless[1:] {
		refused(t, fmt.Sprintf("the client %.20q", name), do(base(), send(name, 1)), errName)
	}
	// Without a client the number is nothing.
	for _, n := range append([]int{1, 7}, packetless...) {
		leads(t, fmt.Sprint("no client, ", n), do(api.Core{}, send("", n)), api.Core{})
	}
	// 32 packets, and one more; 16 clients, and one more.
	var c api.Core
	for n := range 32 {
		c, _ = row(t, c, send("me", 100-n))
		if len(c.Clients[0].Packets) != n+1 || !core.Good(c) {
			t.Fatalf("%d packets: %+v", n+1, c.Clients)
		}
	}
	refused(t, "the 33rd", do(c, send("me", 1)), errRoom)
	leads(t, "one that is there", do(c, send("me", 100)), c)
	for n := range 15 {
		c, _ = row(t, c, send(fmt.Sprint("c", 99-n), 5))
	}
	refused(t, "the 17th client", do(c, send("new", 5)), errRoom)
	refused(t, "the 33rd packet", do(c, send("me", 5)), errRoom)
	leads(t, "one that is there", do(c, send("c99", 5)), c)
	c, _ = row(t, c, send("c99", 6), api.Op{Kind: release, Text: "me", N: 90}, send("me", 5))
	refused(t, "the 33rd again", do(c, send("me", 90)), errRoom)
	c, _ = row(t, c, api.Op{Kind: release, Text: "c95", N: 5}, send("new", 5))
	refused(t, "the 17th again", do(c, send("c95", 5)), errRoom)
}

func TestP11_1_ReleaseAndForget(t *testing.T) {
	want := base()
	want.Clients[0].Packets = []int{1, 65535}
	leads(t, "one of three", do(base(), api.Op{Kind: release, Text: "me", N: 7}), want)
	want = base()
	want.Clients = want.Clients[:1]
	leads(t, "the only one", do(base(), api.Op{Kind: release, Text: "you", N: 7}), want)
	leads(t, "forget the last", do(base(), api.Op{Kind: forget, Text: "you"}), want)
	want = base()
	want.Clients = want.Clients[1:]
	leads(t, "forget the first", do(base(), api.Op{Kind: forget, Text: "me", N: 99}), want)
	// What isn't there is there no more.
	for _, n := range append([]int{2, 8, 65534}, packetless...) {
		leads(t, fmt.Sprint("the packet ", n), do(base(), api.Op{Kind: release, Text: "me", N: n}), base())
		leads(t, fmt.Sprint("the packet ", n), do(base(), api.Op{Kind: release, Text: "you", N: n}), base())
		leads(t, fmt.Sprint("the packet ", n, " of nobody"), do(base(), api.Op{Kind: release, Text: "nobody", N: n}), base())
	}
	leads(t, "forget nobody", do(base(), api.Op{Kind: forget, Text: "nobody", N: 7}), base())
	leads(t, "forget nobody of none", do(api.Core{}, api.Op{Kind: forget, Text: "nobody"}), api.Core{})
	for _, name := range nameless {
		for _, n := range []int{0, 7} {
			refused(t, fmt.Sprintf("release %.20q", name), do(base(), api.Op{Kind: release, Text: name, N: n}), errName)
			refused(t, fmt.Sprintf("forget %.20q", name), do(base(), api.Op{Kind: forget, Text: name, N: n}), errName)
		}
	}
}

func TestP11_1_Keep(t *testing.T) {
	keep := func(m api.Msg) api.Op { return api.Op{Kind: publish, Msg: m, Queue: "", Keep: true} }
	c := with(func(c *api.Core) { c.Binds = nil })
	for _, topic := range []string{"a", "k.b", "zz"} {
		want := c
		want.Kept = append(slices.Clone(c.Kept), fleeting(topic, "new"))
		slices.SortFunc(want.Kept, func(a, b api.Msg) int {
			if a.Topic < b.Topic {
				return -1
			}
			return 1
		})
		leads(t, "a new topic", do(c, keep(fleeting(topic, "new"))), want)
		leads(t, "nothing to be retained no more", do(c, keep(rich(topic, ""))), c)
	}
	for at, m := range c.Kept {
		want := c
		want.Kept = slices.Clone(c.Kept)
		want.Kept[at] = api.Msg{Topic: m.Topic, Body: "other", Until: 3}
		leads(t, "a topic that is there", do(c, keep(api.Msg{Topic: m.Topic, Body: "other", Until: 3})), want)
		want.Kept = slices.Delete(slices.Clone(c.Kept), at, at+1)
		leads(t, "retained no more", do(c, keep(api.Msg{Topic: m.Topic})), want)
		leads(t, "without Keep", do(c, api.Op{Kind: publish, Msg: api.Msg{Topic: m.Topic}}), c)
		leads(t, "without Keep, with a body", do(c, api.Op{Kind: publish, Msg: api.Msg{Topic: m.Topic, Body: "x"}}), c)
	}
	// It is retained beside being pushed, straight to a queue too; without a body it is pushed as well.
	c = done(t, "straight", do(base(), api.Op{Kind: publish, Msg: rich("k", "both"), Queue: "b", Keep: true}))
	if stands(t, "straight", c, "b", "b-two b-three both", "2:b-one"); c.Kept[0].Body != "both" {
		t.Errorf("retained is %q", c.Kept[0].Body)
	}
	c = done(t, "no body", do(base(), api.Op{Kind: publish, Msg: rich("k", ""), Keep: true}))
	if stands(t, "no body", c, "b", "b-two b-three ", "2:b-one"); len(c.Kept) != 2 {
		t.Errorf("retained is %+v", c.Kept)
	}
}

func TestP11_1_KeepUntilFull(t *testing.T) {
	var c api.Core
	keep := func(topic, body string) api.Op {
		return api.Op{Kind: publish, Msg: api.Msg{Topic: topic, Body: body}, Keep: true}
	}
	for n := range 16 {
		c, _ = row(t, c, keep(fmt.Sprint("t", 99-n), "x"))
		if len(c.Kept) != n+1 || !core.Good(c) {
			t.Fatalf("%d retained: %+v", n+1, c.Kept)
		}
	}
	refused(t, "the 17th", do(c, keep("new", "x")), errRoom)
	leads(t, "one without a body", do(c, keep("new", "")), c)
	// In the place of one that is there, there is room.
	after, _ := row(t, c, keep("t99", "y"))
	if after.Kept[15].Body != "y" || len(after.Kept) != 16 {
		t.Errorf("in its place: %+v", after.Kept)
	}
	c, _ = row(t, c, keep("t99", ""), keep("new", "x"))
	refused(t, "the 17th again", do(c, keep("t99", "x")), errRoom)
}

// Over long rows: a message that is published is in each queue that it is for, or went out of it, just once; with an error it is nowhere.
func TestP11_4_LongRows(t *testing.T) {
	r := rand.New(rand.NewSource(114))
	pushed, refusals, repeats := 0, 0, 0
	for range 300 {
		c := someStart(r)
		for n := range 80 {
			o := someOp(r, c, n)
			o.Msg.Body = fmt.Sprint("own", n)
			a := do(c, o)
			if o.Kind != publish || a.err != ok {
				if a.err == errDeep {
					refusals++
				}
				if a.err == ok {
					c = a.core
				}
				continue
			}
			repeat := slices.ContainsFunc(c.Clients, func(k api.Client) bool { return k.Name == o.Text && slices.Contains(k.Packets, o.N) })
			over := o.Msg.Until > 0 && o.Msg.Until <= c.Now
			w := twinOf(c)
			for _, q := range a.core.Queues {
				want := 0
				if w.meant(o, q.Name) && !repeat && !over {
					want = 1
					pushed++
				}
				if n := times(q, a.out, o.Msg.Body); n != want {
					t.Fatalf("%+v: %d times in or from %s, not %d times", o, n, q.Name, want)
				}
			}
			if repeat {
				repeats++
			}
			c = a.core
		}
	}
	if pushed < 1000 || refusals < 300 || repeats < 50 {
		t.Errorf("just %d pushed, %d refused, %d repeated", pushed, refusals, repeats)
	}
}

// times: how often a message of this body is in a queue, or went out of it without being held.
func times(q api.Queue, out []api.Out, body string) int {
	n := 0
	for _, i := range q.Items {
		if i.Msg.Body == body {
			n++
		}
	}
	for _, h := range q.Held {
		if h.Item.Msg.Body == body {
			n++
		}
	}
	for _, o := range out {
		if o.Queue == q.Name && o.Tag == 0 && !o.Kept && o.Msg.Body == body {
			n++
		}
	}
	return n
}
