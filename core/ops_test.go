package core_test

import (
	"fmt"
	"math"
	"slices"
	"strings"
	"testing"

	"trivet/api"
	"trivet/core"
)

func TestP11_1_Examples(t *testing.T) {
	m := func(body string) api.Op { return api.Op{Kind: publish, Msg: api.Msg{Topic: "a.b", Body: body}} }
	c, out := row(t, api.Core{}, api.Op{Kind: declare, Queue: "q", N: 2}, api.Op{Kind: bind, Queue: "q", Text: "a.*"}, m("x"))
	handed(t, "published", out)
	stands(t, "published", c, "q", "x", "")
	a := do(c, api.Op{Kind: subscribe, Conn: 1, Sub: 4, Queue: "q", N: 1})
	c = done(t, "Subscribe", a)
	handed(t, "subscribed", a.out, "1/4#1 q:x")
	stands(t, "subscribed", c, "q", "", "1:x")
	c, out = row(t, c, m("y"))
	handed(t, "published once more", out)
	stands(t, "published once more", c, "q", "y", "1:x")
	refused(t, "and again", do(c, m("z")), errDeep)
	a = do(c, api.Op{Kind: ack, Conn: 1, Queue: "q", N: 1})
	c = done(t, "Ack", a)
	handed(t, "acknowledged", a.out, "1/4#2 q:y")
	stands(t, "acknowledged", c, "q", "", "2:y")
}

// The eighth of the document's examples: what was handed out and not done with is handed out anew, marked, in its old place.
func TestP11_1_HandedOutAnew(t *testing.T) {
	c, _ := row(t, api.Core{}, api.Op{Kind: declare, Queue: "q", N: 3},
		api.Op{Kind: publish, Queue: "q", Msg: api.Msg{Topic: "a", Body: "1"}},
		api.Op{Kind: publish, Queue: "q", Msg: api.Msg{Topic: "a", Body: "2"}},
		api.Op{Kind: publish, Queue: "q", Msg: api.Msg{Topic: "a", Body: "3"}})
	c, out := row(t, c, api.Op{Kind: subscribe, Queue: "q", N: 2})
	handed(t, "window 2", out, "0/0#1 q:1", "0/0#2 q:2")
	c, out = row(t, c, api.Op{Kind: detach})
	handed(t, "detached", out)
	_, out = row(t, c, api.Op{Kind: subscribe, Conn: 5, Sub: 6, Queue: "q", N: 32})
	handed(t, "the next one", out, "5/6#3 q:1+", "5/6#4 q:2+", "5/6#5 q:3")
}

func TestP11_1_Declare(t *testing.T) {
	for _, name := range []string{"0", "aa", "bb", "z", strings.Repeat("c", 16)} {
		for _, depth := range []int{1, 2, 63, 64} {
			for _, durable := range []bool{true, false} {
				want := base()
				want.Queues = append(want.Queues, api.Queue{Name: name, Durable: durable, Depth: depth})
				slices.SortFunc(want.Queues, func(a, b api.Queue) int { return strings.Compare(a.Name, b.Name) })
				o := api.Op{Kind: declare, Queue: name, Durable: durable, N: depth}
				leads(t, "a new one", do(base(), o), want)
				// What is there already is left as it is.
				leads(t, "once more", do(want, o), want)
			}
		}
		for _, depth := range []int{0, 65, -1, math.MinInt, math.MaxInt} {
			refused(t, fmt.Sprint("depth ", depth), do(base(), api.Op{Kind: declare, Queue: name, N: depth}), errArg)
		}
	}
	for _, name := range nameless {
		for _, depth := range []int{1, 0, 65} {
			refused(t, fmt.Sprintf("the name %.20q", name), do(base(), api.Op{Kind: declare, Queue: name, N: depth}), errName)
			refused(t, fmt.Sprintf("the name %.20q, no room", name), do(crowd(), api.Op{Kind: declare, Queue: name, N: depth}), errName)
		}
	}
	// One with items stays as it is too.
	leads(t, "a", do(base(), api.Op{Kind: declare, Queue: "a", Durable: true, N: 6}), base())
	leads(t, "b", do(base(), api.Op{Kind: declare, Queue: "b", N: 4}), base())
	for _, o := range []api.Op{{Queue: "a", N: 6}, {Queue: "a", Durable: true, N: 5}, {Queue: "a", Durable: true, N: 0}, {Queue: "a", Durable: true, N: 65}, {Queue: "b", Durable: true, N: 4}, {Queue: "b", N: math.MinInt}} {
		o.Kind = declare
		refused(t, fmt.Sprintf("%+v is there otherwise", o), do(base(), o), errThere)
	}
}

func TestP11_1_DeclareUntilFull(t *testing.T) {
	var c api.Core
	for n := range 16 {
		o := api.Op{Kind: declare, Queue: fmt.Sprint("q", 99-n), N: 1 + n}
		c, _ = row(t, c, o)
		if len(c.Queues) != n+1 || c.Queues[0].Name != o.Queue || !core.Good(c) {
			t.Fatalf("%d queues: %+v", n+1, c.Queues)
		}
	}
	refused(t, "the 17th", do(c, api.Op{Kind: declare, Queue: "r", N: 1}), errRoom)
	refused(t, "the 17th, too deep", do(c, api.Op{Kind: declare, Queue: "r", N: 65}), errArg)
	refused(t, "the 17th, nameless", do(c, api.Op{Kind: declare, Queue: "R", N: 65}), errName)
	refused(t, "there otherwise", do(c, api.Op{Kind: declare, Queue: "q99", N: 2}), errThere)
	leads(t, "there", do(c, api.Op{Kind: declare, Queue: "q99", N: 1}), c)
	c, _ = row(t, c, api.Op{Kind: remove, Queue: "q90"}, api.Op{Kind: declare, Queue: "r", N: 1})
	refused(t, "the 17th again", do(c, api.Op{Kind: declare, Queue: "q90", N: 1}), errRoom)
}

func TestP11_1_Delete(t *testing.T) {
	want := base()
	want.Queues, want.Binds, want.Subs = want.Queues[1:], want.Binds[2:], want.Subs[1:3]
	leads(t, "a", do(base(), api.Op{Kind: remove, Queue: "a"}), want)
	want = base()
	want.Queues, want.Binds = slices.Delete(want.Queues, 1, 2), slices.Delete(want.Binds, 2, 3)
	leads(t, "b", do(base(), api.Op{Kind: remove, Queue: "b"}), want)
	want = base()
	want.Queues, want.Subs = want.Queues[:3], slices.Delete(want.Subs, 1, 2)
	leads(t, "d", do(base(), api.Op{Kind: remove, Queue: "d"}), want)
	for _, name := range append([]string{"e", "aa", "0", "me", "k"}, nameless...) {
		refused(t, fmt.Sprintf("%.20q", name), do(base(), api.Op{Kind: remove, Queue: name}), errNone)
	}
	// What was there comes not back with the name.
	c, out := row(t, base(), api.Op{Kind: remove, Queue: "a"}, api.Op{Kind: declare, Queue: "a", N: 6}, api.Op{Kind: publish, Msg: api.Msg{Topic: "n.o"}}, api.Op{Kind: subscribe, Queue: "a", N: 1})
	handed(t, "anew", out)
	is(t, "anew", queueOf(t, c, "a"), api.Queue{Name: "a", Depth: 6})
}

func TestP11_1_Bind(t *testing.T) {
	for _, s := range []string{"#", "*", "a", "n.p", "n.*.#", "n", "zz", "a.b.c.d.e.f.g.#", strings.Repeat("1234567.", 7) + "12345678"} {
		for _, keep := range []bool{true, false} {
			want := base()
			want.Binds = append(want.Binds, api.Bind{Queue: "a", Pattern: s})
			slices.SortFunc(want.Binds, func(a, b api.Bind) int {
				return strings.Compare(a.Queue+"\x00"+a.Pattern, b.Queue+"\x00"+b.Pattern)
			})
			var out []api.Out
			for _, m := range base().Kept {
				if keep && hasTopic(s, m.Topic) {
					out = append(out, api.Out{Conn: 3, Sub: 9, Queue: "a", Kept: true, Msg: m})
				}
			}
			leads(t, "a new one: "+s, do(base(), api.Op{Kind: bind, Queue: "a", Text: s, Keep: keep, Conn: 3, Sub: 9}), want, out...)
			leads(t, "once more: "+s, do(want, api.Op{Kind: bind, Queue: "a", Text: s, Keep: keep, Conn: 3, Sub: 9}), want, out...)
		}
	}
	for _, s := range patternless {
		for _, keep := range []bool{true, false} {
			refused(t, fmt.Sprintf("the pattern %.20q", s), do(base(), api.Op{Kind: bind, Queue: "a", Text: s, Keep: keep, Conn: 8}), errTopic)
			refused(t, fmt.Sprintf("the pattern %.20q, no queue", s), do(base(), api.Op{Kind: bind, Queue: "e", Text: s, Keep: keep, Conn: 8}), errNone)
		}
	}
	for _, name := range append([]string{"e", "0"}, nameless...) {
		refused(t, fmt.Sprintf("the queue %.20q", name), do(base(), api.Op{Kind: bind, Queue: name, Text: "x"}), errNone)
	}
}

func TestP11_1_BindHandsOutWhatIsRetained(t *testing.T) {
	ask := func(s string, conn, sub int) []api.Out {
		t.Helper()
		a := do(base(), api.Op{Kind: bind, Queue: "d", Text: s, Keep: true, Conn: conn, Sub: sub})
		done(t, s, a)
		return a.out
	}
	handed(t, "#", ask("#", 0, 0), "0/0#0 d:keptk", "0/0#0 d:fleetingk", "0/0#0 d:lastk")
	handed(t, "k.#", ask("k.#", 7, maxNum), "7/1099511627776#0 d:keptk", "7/1099511627776#0 d:fleetingk")
	handed(t, "k.*", ask("k.*", 1, 2), "1/2#0 d:fleetingk")
	handed(t, "*", ask("*", 1, 2), "1/2#0 d:keptk", "1/2#0 d:lastk")
	handed(t, "z", ask("z", 1, 2), "1/2#0 d:lastk")
	handed(t, "y", ask("y", 1, 2))
	// No subscription needs to be there, and none comes of it.
	for _, n := range connless {
		refused(t, fmt.Sprint("Conn ", n), do(base(), api.Op{Kind: bind, Queue: "d", Text: "y", Keep: true, Conn: n}), errArg)
		leads(t, fmt.Sprint("without Keep, Conn ", n), do(base(), api.Op{Kind: bind, Queue: "c", Text: "full", Conn: n}), base())
	}
	for _, n := range subless {
		refused(t, fmt.Sprint("Sub ", n), do(base(), api.Op{Kind: bind, Queue: "d", Text: "y", Keep: true, Sub: n}), errArg)
		leads(t, fmt.Sprint("without Keep, Sub ", n), do(base(), api.Op{Kind: bind, Queue: "c", Text: "full", Sub: n}), base())
	}
	// Until plays no part in what is retained.
	old := with(func(c *api.Core) { c.Kept[2].Until = 50 })
	a := do(old, api.Op{Kind: bind, Queue: "d", Text: "z", Keep: true})
	done(t, "a retained one that is no more", a)
	handed(t, "a retained one that is no more", a.out, "0/0#0 d:lastk")
	// What is retained goes ahead of what is pumped.
	waiting := with(func(c *api.Core) { c.Subs[0].Window = 2 })
	a = do(waiting, api.Op{Kind: bind, Queue: "d", Text: "z", Keep: true})
	done(t, "ahead of the pump", a)
	handed(t, "ahead of the pump", a.out, "0/0#0 d:lastk", "1/4#6 a:three+")
}

func TestP11_1_BindUntilFull(t *testing.T) {
	c, _ := row(t, api.Core{}, api.Op{Kind: declare, Queue: "a", N: 1}, api.Op{Kind: declare, Queue: "b", N: 1})
	for n := range 64 {
		c, _ = row(t, c, api.Op{Kind: bind, Queue: []string{"b", "a"}[n%2], Text: fmt.Sprint("w", 99-n)})
		if len(c.Binds) != n+1 || !core.Good(c) {
			t.Fatalf("%d binds: %+v", n+1, c.Binds)
		}
	}
	there := c.Binds[63]
	refused(t, "the 65th", do(c, api.Op{Kind: bind, Queue: "a", Text: "x"}), errRoom)
	refused(t, "the 65th, and no connection", do(c, api.Op{Kind: bind, Queue: "a", Text: "x", Keep: true, Conn: 8}), errRoom)
	refused(t, "the 65th, no pattern", do(c, api.Op{Kind: bind, Queue: "a", Text: "X"}), errTopic)
	refused(t, "the 65th, no queue", do(c, api.Op{Kind: bind, Queue: "c", Text: "X"}), errNone)
	refused(t, "there, and no connection", do(c, api.Op{Kind: bind, Queue: there.Queue, Text: there.Pattern, Keep: true, Conn: 8}), errArg)
	leads(t, "there", do(c, api.Op{Kind: bind, Queue: there.Queue, Text: there.Pattern}), c)
	c, _ = row(t, c, api.Op{Kind: unbind, Queue: there.Queue, Text: there.Pattern}, api.Op{Kind: bind, Queue: "a", Text: "x"})
	refused(t, "the 65th again", do(c, api.Op{Kind: bind, Queue: there.Queue, Text: there.Pattern}), errRoom)
}

func TestP11_1_Unbind(t *testing.T) {
	for at, b := range base().Binds {
		want := base()
		want.Binds = slices.Delete(want.Binds, at, at+1)
		o := api.Op{Kind: unbind, Queue: b.Queue, Text: b.Pattern}
		leads(t, fmt.Sprint(b), do(base(), o), want)
		refused(t, fmt.Sprint(b, " twice"), do(want, o), errNone)
	}
	for _, b := range []api.Bind{{Queue: "b", Pattern: "n.*"}, {Queue: "a", Pattern: "n.a"}, {Queue: "a", Pattern: "n"}, {Queue: "e", Pattern: "n.*"}, {Queue: "d", Pattern: "#"}, {}, {Queue: "a", Pattern: "A"}} {
		refused(t, fmt.Sprint(b), do(base(), api.Op{Kind: unbind, Queue: b.Queue, Text: b.Pattern}), errNone)
	}
	// The other pattern of the queue leads there still.
	c, _ := row(t, base(), api.Op{Kind: unbind, Queue: "a", Text: "n.*"})
	for topic, want := range map[string]int{"n.o": 3, "n.p": 2} {
		if after, _ := row(t, c, api.Op{Kind: publish, Msg: api.Msg{Topic: topic}}); len(after.Queues[0].Items) != want {
			t.Errorf("%s: %s", topic, waits(after.Queues[0]))
		}
	}
}

func TestP11_1_Subscribe(t *testing.T) {
	for _, conn := range []int{0, 3, 7} {
		for _, sub := range []int{0, 5, maxNum - 1, maxNum} {
			if conn == 7 && sub == maxNum {
				// That one is there.
				continue
			}
			for _, window := range []int{1, 31, 32} {
				for _, auto := range []bool{true, false} {
					want := with(func(c *api.Core) {
						c.Queues[2].Items = nil
						c.Subs = append(c.Subs, api.Sub{Conn: conn, Sub: sub, Queue: "c", Window: window, Auto: auto})
					})
					slices.SortFunc(want.Subs, func(a, b api.Sub) int { return pairs([2]int{a.Conn, a.Sub}, [2]int{b.Conn, b.Sub}) })
					c := with(func(c *api.Core) { c.Queues[2].Items = nil })
					leads(t, "a new one", do(c, api.Op{Kind: subscribe, Conn: conn, Sub: sub, Queue: "c", N: window, Auto: auto}), want)
				}
			}
		}
	}
	for _, n := range connless {
		refused(t, fmt.Sprint("Conn ", n), do(base(), api.Op{Kind: subscribe, Conn: n, Queue: "a", N: 1}), errArg)
		refused(t, fmt.Sprint("Conn ", n, ", no queue"), do(base(), api.Op{Kind: subscribe, Conn: n, Queue: "e", N: 1}), errArg)
	}
	for _, n := range subless {
		refused(t, fmt.Sprint("Sub ", n), do(base(), api.Op{Kind: subscribe, Sub: n, Queue: "a", N: 1}), errArg)
		refused(t, fmt.Sprint("Sub ", n, ", no queue"), do(base(), api.Op{Kind: subscribe, Sub: n, Queue: "e", N: 1}), errArg)
	}
	for _, n := range windowless {
		for _, auto := range []bool{true, false} {
			refused(t, fmt.Sprint("window ", n), do(base(), api.Op{Kind: subscribe, Queue: "a", N: n, Auto: auto}), errArg)
			refused(t, fmt.Sprint("window ", n, ", no queue"), do(base(), api.Op{Kind: subscribe, Queue: "e", N: n, Auto: auto}), errArg)
			refused(t, fmt.Sprint("window ", n, ", there"), do(base(), api.Op{Kind: subscribe, Conn: 1, Sub: 4, Queue: "a", N: n, Auto: auto}), errArg)
		}
	}
	for _, name := range append([]string{"e", "0"}, nameless...) {
		refused(t, fmt.Sprintf("the queue %.20q", name), do(base(), api.Op{Kind: subscribe, Queue: name, N: 1}), errNone)
		refused(t, fmt.Sprintf("the queue %.20q, there", name), do(base(), api.Op{Kind: subscribe, Conn: 1, Sub: 4, Queue: name, N: 1}), errNone)
	}
	for _, s := range base().Subs {
		for _, name := range []string{"a", "b", "d"} {
			refused(t, fmt.Sprint(s, " is there"), do(base(), api.Op{Kind: subscribe, Conn: s.Conn, Sub: s.Sub, Queue: name, N: 2}), errThere)
		}
	}
}

func TestP11_1_SubscribeUntilFull(t *testing.T) {
	c, _ := row(t, api.Core{}, api.Op{Kind: declare, Queue: "a", N: 1}, api.Op{Kind: declare, Queue: "b", N: 1})
	for n := range 32 {
		c, _ = row(t, c, api.Op{Kind: subscribe, Conn: 7 - n%8, Sub: maxNum - n, Queue: []string{"b", "a"}[n%2], N: 32})
		if len(c.Subs) != n+1 || !core.Good(c) {
			t.Fatalf("%d subscriptions: %+v", n+1, c.Subs)
		}
	}
	refused(t, "the 33rd", do(c, api.Op{Kind: subscribe, Queue: "a", N: 1}), errRoom)
	refused(t, "the 33rd, there", do(c, api.Op{Kind: subscribe, Conn: 7, Sub: maxNum, Queue: "a", N: 1}), errThere)
	refused(t, "the 33rd, no queue", do(c, api.Op{Kind: subscribe, Queue: "c", N: 1}), errNone)
	refused(t, "the 33rd, no window", do(c, api.Op{Kind: subscribe, Queue: "c", N: 33}), errArg)
	c, _ = row(t, c, api.Op{Kind: unsubscribe, Conn: 7, Sub: maxNum}, api.Op{Kind: subscribe, Queue: "a", N: 1})
	refused(t, "the 33rd again", do(c, api.Op{Kind: subscribe, Conn: 7, Sub: maxNum, Queue: "a", N: 1}), errRoom)
}

func TestP11_1_Unsubscribe(t *testing.T) {
	// What it holds of its queue is put back; what stands for it in another queue, by a Get, stays.
	a := do(base(), api.Op{Kind: unsubscribe, Conn: 1, Sub: 4})
	want := base()
	want.Subs = want.Subs[1:]
	back := want.Queues[0].Held[0].Item
	back.Again = true
	want.Queues[0].Held = want.Queues[0].Held[1:]
	want.Queues[0].Items = slices.Insert(want.Queues[0].Items, 1, back)
	leads(t, "1, 4", a, want)
	// What another subscription of the connection holds there stays too.
	want = base()
	want.Subs = slices.Delete(want.Subs, 1, 2)
	leads(t, "1, 7", do(base(), api.Op{Kind: unsubscribe, Conn: 1, Sub: 7}), want)
	for _, k := range [][2]int{{0, 4}, {1, 5}, {2, 4}, {7, maxNum - 1}, {-1, 4}, {8, 4}, {1, -1}, {1, maxNum + 1}, {math.MinInt, math.MaxInt}} {
		refused(t, fmt.Sprint(k), do(base(), api.Op{Kind: unsubscribe, Conn: k[0], Sub: k[1]}), errNone)
	}
	// Who is there still is handed what was put back.
	c := with(func(c *api.Core) { c.Subs[3].Window = 2; c.Queues[0].Items = nil })
	a = do(c, api.Op{Kind: unsubscribe, Conn: 1, Sub: 4})
	done(t, "put back", a)
	handed(t, "put back", a.out, "7/1099511627776#6 a:four+")
}

func TestP11_1_Get(t *testing.T) {
	for _, conn := range []int{0, 1, 7} {
		for _, sub := range []int{0, 4, maxNum} {
			first := base().Queues[0].Items[0]
			want := base()
			want.Queues[0].Items = want.Queues[0].Items[1:]
			out := api.Out{Conn: conn, Sub: sub, Queue: "a", Again: true, Msg: first.Msg}
			leads(t, "not held", do(base(), api.Op{Kind: get, Conn: conn, Sub: sub, Queue: "a", Auto: true}), want, out)
			want.Queues[0].Tag = 6
			want.Queues[0].Held = append(want.Queues[0].Held, api.Held{Tag: 6, Conn: conn, Sub: sub, Item: first})
			out.Tag = 6
			leads(t, "held", do(base(), api.Op{Kind: get, Conn: conn, Sub: sub, Queue: "a"}), want, out)
		}
	}
	for _, auto := range []bool{true, false} {
		refused(t, "nothing waits", do(base(), api.Op{Kind: get, Queue: "d", Auto: auto}), errNone)
		for _, n := range connless {
			refused(t, fmt.Sprint("Conn ", n), do(base(), api.Op{Kind: get, Conn: n, Queue: "a", Auto: auto}), errArg)
			refused(t, fmt.Sprint("Conn ", n, ", no queue"), do(base(), api.Op{Kind: get, Conn: n, Queue: "e", Auto: auto}), errArg)
		}
		for _, n := range subless {
			refused(t, fmt.Sprint("Sub ", n), do(base(), api.Op{Kind: get, Sub: n, Queue: "a", Auto: auto}), errArg)
			refused(t, fmt.Sprint("Sub ", n, ", no queue"), do(base(), api.Op{Kind: get, Sub: n, Queue: "e", Auto: auto}), errArg)
		}
		for _, name := range append([]string{"e", "0"}, nameless...) {
			refused(t, fmt.Sprintf("the queue %.20q", name), do(base(), api.Op{Kind: get, Queue: name, Auto: auto}), errNone)
		}
		last := with(func(c *api.Core) { c.Queues[0].Tag, c.Queues[3].Tag = maxNum, maxNum })
		refused(t, "the last tag", do(last, api.Op{Kind: get, Queue: "a", Auto: auto}), errArg)
		refused(t, "the last tag, nothing waits", do(last, api.Op{Kind: get, Queue: "d", Auto: auto}), errArg)
	}
}

func TestP11_1_GetOfWhatIsNoMore(t *testing.T) {
	for until, want := range map[int]string{49: "five", 50: "five", 51: "three+", 0: "three+", 1: "five", maxNum: "three+"} {
		c := with(func(c *api.Core) { c.Queues[0].Items[0].Msg.Until = until })
		a := do(c, api.Op{Kind: get, Conn: 3, Queue: "a"})
		done(t, "Get", a)
		handed(t, fmt.Sprint("Until ", until), a.out, "3/0#6 a:"+want)
	}
	all := with(func(c *api.Core) { c.Queues[0].Items[0].Msg.Until, c.Queues[0].Items[1].Msg.Until = 50, 49 })
	refused(t, "nothing is left", do(all, api.Op{Kind: get, Queue: "a"}), errNone)
}

func TestP11_1_AckAndNack(t *testing.T) {
	for at, h := range base().Queues[0].Held {
		gone := base()
		gone.Queues[0].Held = slices.Delete(gone.Queues[0].Held, at, at+1)
		// Nobody gets what is put back: the windows are as full as they were, or the queue isn't theirs.
		gone.Subs = nil
		c := with(func(c *api.Core) { c.Subs = nil })
		leads(t, "Ack", do(c, api.Op{Kind: ack, Conn: h.Conn, Queue: "a", N: h.Tag}), gone)
		leads(t, "Ack with Auto", do(c, api.Op{Kind: ack, Conn: h.Conn, Queue: "a", N: h.Tag, Auto: true}), gone)
		leads(t, "Nack", do(c, api.Op{Kind: nack, Conn: h.Conn, Queue: "a", N: h.Tag}), gone)
		back := gone
		h.Item.Again = true
		back.Queues[0].Items = append(slices.Clone(gone.Queues[0].Items), h.Item)
		slices.SortFunc(back.Queues[0].Items, func(a, b api.Item) int { return a.Seq - b.Seq })
		leads(t, "Nack with Auto", do(c, api.Op{Kind: nack, Conn: h.Conn, Queue: "a", N: h.Tag, Auto: true}), back)
		for _, kind := range []int{ack, nack} {
			for _, auto := range []bool{true, false} {
				what := fmt.Sprint("kind ", kind, ", tag ", h.Tag)
				refused(t, what+", another connection", do(base(), api.Op{Kind: kind, Conn: 8 - h.Conn, Queue: "a", N: h.Tag, Auto: auto}), errNone)
				refused(t, what+", another queue", do(base(), api.Op{Kind: kind, Conn: h.Conn, Queue: "d", N: h.Tag, Auto: auto}), errNone)
				refused(t, what+", no queue", do(base(), api.Op{Kind: kind, Conn: h.Conn, Queue: "e", N: h.Tag, Auto: auto}), errNone)
				refused(t, what+", done already", do(gone, api.Op{Kind: kind, Conn: h.Conn, Queue: "a", N: h.Tag, Auto: auto}), errNone)
			}
		}
	}
	for _, kind := range []int{ack, nack} {
		for _, n := range []int{0, 1, 4, 6, -1, maxNum, math.MinInt, math.MaxInt} {
			refused(t, fmt.Sprint("kind ", kind, ", tag ", n), do(base(), api.Op{Kind: kind, Conn: 1, Queue: "a", N: n}), errNone)
		}
		for _, n := range connless {
			refused(t, fmt.Sprint("kind ", kind, ", Conn ", n), do(base(), api.Op{Kind: kind, Conn: n, Queue: "a", N: 2}), errNone)
		}
		for _, name := range nameless {
			refused(t, fmt.Sprintf("kind %d, the queue %.20q", kind, name), do(base(), api.Op{Kind: kind, Conn: 1, Queue: name, N: 2}), errNone)
		}
	}
	// The window has room again.
	a := do(base(), api.Op{Kind: ack, Conn: 1, Queue: "a", N: 2})
	done(t, "Ack", a)
	handed(t, "Ack", a.out, "1/4#6 a:three+")
	a = do(base(), api.Op{Kind: nack, Conn: 1, Queue: "a", N: 2})
	done(t, "Nack", a)
	handed(t, "Nack", a.out, "1/4#6 a:three+")
	// What is put back can go out at once, to the same one.
	c := with(func(c *api.Core) { c.Queues[0].Items = nil })
	a = do(c, api.Op{Kind: nack, Conn: 1, Queue: "a", N: 2, Auto: true})
	done(t, "put back", a)
	handed(t, "put back", a.out, "1/4#6 a:four+")
	// By a Get it can be held without a subscription: its connection is done with it all the same.
	if after, _ := row(t, base(), api.Op{Kind: ack, Conn: 1, Queue: "b", N: 2}); len(after.Queues[1].Held) != 0 {
		t.Errorf("held by a Get: %s", holds(after.Queues[1]))
	}
}

func TestP11_1_Detach(t *testing.T) {
	a := do(base(), api.Op{Kind: detach, Conn: 1})
	c := done(t, "Detach", a)
	handed(t, "Detach", a.out)
	want := base()
	want.Subs = want.Subs[2:]
	is(t, "the subscriptions", c.Subs, want.Subs)
	stands(t, "Detach", c, "a", "one+ three+ four+ five", "3:eight")
	stands(t, "Detach", c, "b", "b-one+ b-two b-three", "")
	stands(t, "Detach", c, "c", "c-four", "1:c-two")
	want.Queues = c.Queues
	is(t, "all else", c, want)
	// One that has nothing may go as well, once more too.
	leads(t, "connection 0", do(base(), api.Op{Kind: detach, Conn: 0}), base())
	leads(t, "connection 1 once more", do(c, api.Op{Kind: detach, Conn: 1}), c)
	c, _ = row(t, base(), api.Op{Kind: detach, Conn: 7})
	stands(t, "connection 7", c, "a", "three+ five eight+", "2:four 5:one")
	for _, n := range connless {
		refused(t, fmt.Sprint("Conn ", n), do(base(), api.Op{Kind: detach, Conn: n}), errArg)
	}
	// What it held goes to who is there still.
	a = do(with(func(c *api.Core) { c.Subs[3].Window = 3 }), api.Op{Kind: detach, Conn: 1})
	done(t, "Detach", a)
	handed(t, "to who is there still", a.out, "7/1099511627776#6 a:one+", "7/1099511627776#7 a:three+")
}

func TestP11_1_Tick(t *testing.T) {
	for _, now := range []int{0, 1, 50, maxNum - 1, maxNum} {
		for _, n := range []int{0, 1, maxNum - now - 1, maxNum - now} {
			if n < 0 || now+n > maxNum {
				continue
			}
			leads(t, fmt.Sprint(n, " from ", now), do(api.Core{Now: now}, api.Op{Kind: tick, N: n}), api.Core{Now: now + n})
		}
		for _, n := range []int{-1, maxNum - now + 1, math.MinInt, math.MaxInt, math.MaxInt - now, math.MaxInt - now + 1} {
			refused(t, fmt.Sprint(n, " from ", now), do(api.Core{Now: now}, api.Op{Kind: tick, N: n}), errArg)
		}
	}
	refused(t, "just beyond", do(api.Core{Now: maxNum}, api.Op{Kind: tick, N: 1}), errArg)
	leads(t, "all but Now stays", do(base(), api.Op{Kind: tick, N: 949}), with(func(c *api.Core) { c.Now = 999 }))
}

// What waits goes at its tick, not ahead of it; what is held or retained stays.
func TestP11_1_TickToTheEndOfAMessage(t *testing.T) {
	c := with(func(c *api.Core) {
		c.Queues[0].Items[0].Msg.Until, c.Queues[0].Items[1].Msg.Until = 60, 61
		c.Queues[0].Held[0].Item.Msg.Until, c.Kept[0].Until = 60, 60
		c.Queues[1].Items[0].Msg.Until, c.Queues[1].Items[1].Msg.Until = 0, 60
	})
	for n, want := range map[int][2]string{9: {"three+ five", "b-two b-three"}, 10: {"five", "b-two"}, 11: {"", "b-two"}, maxNum - 50: {"", "b-two"}} {
		after, _ := row(t, c, api.Op{Kind: tick, N: n})
		stands(t, fmt.Sprint("tick ", n), after, "a", want[0], "2:four 3:eight 5:one")
		stands(t, fmt.Sprint("tick ", n), after, "b", want[1], "2:b-one")
		is(t, "what is retained", after.Kept, c.Kept)
	}
	// What is held and no more goes when it is put back.
	after, _ := row(t, c, api.Op{Kind: tick, N: 10}, api.Op{Kind: nack, Conn: 1, Queue: "a", N: 2, Auto: true}, api.Op{Kind: detach, Conn: 7})
	stands(t, "put back", after, "a", "eight+", "5:one 6:five")
}

// Which error comes first where several would fit.
func TestP1_WhichErrorComesFirst(t *testing.T) {
	full := crowd()
	for at := range full.Queues {
		full.Queues[at].Depth, full.Queues[at].Seq = 1, 1
		full.Queues[at].Items = []api.Item{{Seq: 1, Msg: api.Msg{Topic: "x"}}}
	}
	full.Subs = full.Subs[:0]
	more := func(m api.Msg, queue, text string, n int) api.Op {
		return api.Op{Kind: publish, Msg: m, Queue: queue, Text: text, N: n, Keep: true}
	}
	good, bad := api.Msg{Topic: "w0", Body: "x"}, api.Msg{Topic: "W0", Body: "x"}
	refused(t, "no message, no client's name", do(full, more(bad, "e", "A", 0)), errMsg)
	refused(t, "no name, no packet", do(full, more(good, "e", "A", 0)), errName)
	refused(t, "no packet, no room for the client", do(full, more(good, "e", "new", 0)), errArg)
	refused(t, "no packet, no room for it", do(full, more(good, "e", "c00", 65536)), errArg)
	refused(t, "no room for the client, no queue", do(full, more(good, "e", "new", 1)), errRoom)
	refused(t, "no room for the packet, no queue", do(full, more(good, "e", "c00", 1)), errRoom)
	refused(t, "no queue, nothing retained", do(full, more(good, "e", "", 0)), errNone)
	refused(t, "a full queue, nothing retained", do(full, more(good, "q00", "", 0)), errDeep)
	refused(t, "full queues, nothing retained", do(full, more(good, "", "", 0)), errDeep)
	full.Queues[3].Seq = maxNum
	refused(t, "a full queue ahead of one without numbers", do(full, more(good, "", "", 0)), errDeep)
	full.Queues[0].Seq = maxNum
	refused(t, "one without numbers ahead of a full queue", do(full, more(good, "", "", 0)), errArg)
	refused(t, "no room for what is retained", do(crowd(), more(good, "q01", "", 0)), errRoom)
	// An operation's own error comes ahead of the pump's.
	stuck := with(func(c *api.Core) { c.Queues[0].Tag, c.Subs[0].Window = maxNum, 2 })
	refused(t, "no queue, and the pump", do(stuck, api.Op{Kind: remove, Queue: "e"}), errNone)
	refused(t, "there, and the pump", do(stuck, api.Op{Kind: declare, Queue: "a", N: 1}), errThere)
	refused(t, "the pump alone", do(stuck, api.Op{Kind: declare, Queue: "e", N: 1}), errArg)
}
