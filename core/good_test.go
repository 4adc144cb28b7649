package core_test

import (
	"fmt"
	"math"
	"slices"
	"strings"
	"testing"

	"trivet/api"
	"trivet/core"
)

// oneMore: a core with as many of all as there may be, changed.
func oneMore(change func(c *api.Core)) api.Core {
	c := crowd()
	change(&c)
	return c
}

// rightCores: cores that can be, at their edges.
func rightCores() map[string]api.Core {
	list := map[string]api.Core{"all zeros": {}, "the base": base(), "as many of all as there may be": crowd()}
	list["empty lists"] = api.Core{Queues: []api.Queue{}, Binds: []api.Bind{}, Subs: []api.Sub{}, Kept: []api.Msg{}, Clients: []api.Client{}}
	for _, n := range []int{0, 1, maxNum - 1, maxNum} {
		list[fmt.Sprint("Now ", n)] = with(func(c *api.Core) { c.Now = n })
	}
	for _, n := range []int{1, 32} {
		list[fmt.Sprint("a window of ", n)] = with(func(c *api.Core) { c.Subs[1].Window = n })
	}
	for _, n := range []int{0, 6, maxNum} {
		list[fmt.Sprint("Sub ", n)] = with(func(c *api.Core) { c.Subs[3].Sub = n })
	}
	list["Conn 0"] = with(func(c *api.Core) { c.Subs[0].Conn = 0 })
	list["a subscription of another connection, with the same number"] = with(func(c *api.Core) { c.Subs[2].Sub = 7 })
	list["a lower number behind a lower connection"] = with(func(c *api.Core) { c.Subs[1].Sub, c.Subs[2].Sub = maxNum, 0 })
	list["Auto"] = with(func(c *api.Core) { c.Subs[1].Auto = true })
	list["something waits that a subscription could have"] = with(func(c *api.Core) { c.Subs[0].Window = 32 })
	list["something waits that is no more"] = with(func(c *api.Core) { c.Now = 2000 })
	list["more is held than the window"] = with(func(c *api.Core) { c.Queues[0].Held[2].Sub = 4 })
	list["a pattern of all that there is"] = with(func(c *api.Core) { c.Binds[3].Pattern = "*.a.*.b.c.d.e.#" })
	list["the same pattern for two queues"] = with(func(c *api.Core) { c.Binds[3].Pattern = "#" })
	list["a lower pattern of a higher queue"] = with(func(c *api.Core) { c.Binds[1].Pattern, c.Binds[2].Pattern = "z", "a" })
	list["a body of one byte"] = with(func(c *api.Core) { c.Kept[1].Body = "\x00" })
	list["a body of 1024 bytes"] = with(func(c *api.Core) { c.Kept[1].Body = strings.Repeat("x", 1024) })
	list["a retained message that is no more"] = with(func(c *api.Core) { c.Kept[0].Until = 1 })
	list["one packet, the first"] = with(func(c *api.Core) { c.Clients[1].Packets = []int{1} })
	list["one packet, the last"] = with(func(c *api.Core) { c.Clients[1].Packets = []int{65535} })
	list["a client's name of 16 bytes"] = with(func(c *api.Core) { c.Clients[1].Name = strings.Repeat("z", 16) })
	list["a queue's name of 16 bytes"] = with(func(c *api.Core) { c.Queues[3].Name = strings.Repeat("d", 16); c.Subs[1].Queue = c.Queues[3].Name })
	list["the last numbers"] = with(func(c *api.Core) { c.Queues[0].Seq, c.Queues[0].Tag = maxNum, maxNum })
	return list
}

// wrongCores: cores that can't be, each for one cause.
func wrongCores() map[string]api.Core {
	list := map[string]api.Core{}
	bad := func(what string, change func(c *api.Core)) { list[what] = with(change) }
	for _, n := range []int{-1, maxNum + 1, math.MinInt, math.MaxInt} {
		bad(fmt.Sprint("Now ", n), func(c *api.Core) { c.Now = n })
		list[fmt.Sprint("nothing but Now ", n)] = api.Core{Now: n}
	}
	wrongQueues(list)
	wrongBinds(list)
	wrongSubs(list)
	wrongKept(list)
	wrongClients(list)
	return list
}

func wrongQueues(list map[string]api.Core) {
	bad := func(what string, change func(c *api.Core)) { list["queues: "+what] = with(change) }
	list["queues: 17"] = oneMore(func(c *api.Core) {
		c.Queues = append(c.Queues, api.Queue{Name: "r", Depth: 1})
	})
	bad("names that fall", func(c *api.Core) { c.Queues[2], c.Queues[3] = c.Queues[3], c.Queues[2] })
	bad("a name twice", func(c *api.Core) {
		c.Queues = append(c.Queues, api.Queue{Name: "d", Depth: 1})
	})
	list["queues: two of one name alone"] = api.Core{Queues: []api.Queue{{Name: "a", Depth: 1}, {Name: "a", Depth: 1}}}
	list["queues: two that fall alone"] = api.Core{Queues: []api.Queue{{Name: "b", Depth: 1}, {Name: "a", Depth: 1}}}
	for at := range 3 {
		for _, n := range []int{0, 65, -1, 1} {
			bad(fmt.Sprint("depth ", n, " at ", at), func(c *api.Core) { c.Queues[at].Depth = n })
		}
		bad(fmt.Sprint("Seq below 0 at ", at), func(c *api.Core) { c.Queues[at].Seq = -1 })
		bad(fmt.Sprint("Tag beyond at ", at), func(c *api.Core) { c.Queues[at].Tag = maxNum + 1 })
		bad(fmt.Sprint("a held one's connection at ", at), func(c *api.Core) { c.Queues[at].Held[0].Conn = 8 })
		bad(fmt.Sprint("a number twice at ", at), func(c *api.Core) { c.Queues[at].Held[0].Item.Seq = c.Queues[at].Items[0].Seq })
		for what, m := range wrongMsgs() {
			bad(fmt.Sprint(what, " waits at ", at), func(c *api.Core) { c.Queues[at].Items[0].Msg = m })
			bad(fmt.Sprint(what, " is held at ", at), func(c *api.Core) { c.Queues[at].Held[0].Item.Msg = m })
		}
	}
	for _, name := range nameless {
		list[fmt.Sprintf("queues: the name %.20q", name)] = api.Core{Queues: []api.Queue{{Name: name, Depth: 1}}}
	}
}

func wrongBinds(list map[string]api.Core) {
	bad := func(what string, change func(c *api.Core)) { list["binds: "+what] = with(change) }
	list["binds: 65"] = oneMore(func(c *api.Core) { c.Binds = append(c.Binds, api.Bind{Queue: "q15", Pattern: "w9"}) })
	bad("queues that fall", func(c *api.Core) { c.Binds[1], c.Binds[2] = c.Binds[2], c.Binds[1] })
	bad("patterns that fall", func(c *api.Core) { c.Binds[0], c.Binds[1] = c.Binds[1], c.Binds[0] })
	bad("one twice", func(c *api.Core) { c.Binds[1].Pattern = "n.*" })
	bad("one twice at the end", func(c *api.Core) { c.Binds = append(c.Binds, c.Binds[3]) })
	for _, name := range []string{"aa", "z", "", "A"} {
		bad(fmt.Sprintf("of the queue %q", name), func(c *api.Core) { c.Binds = []api.Bind{{Queue: name, Pattern: "x"}} })
	}
	for _, s := range patternless {
		bad(fmt.Sprintf("the pattern %.20q", s), func(c *api.Core) { c.Binds = []api.Bind{{Queue: "a", Pattern: s}} })
		bad(fmt.Sprintf("the last pattern %.20q", s), func(c *api.Core) { c.Binds[3].Pattern = s })
	}
	list["binds: without a queue"] = api.Core{Binds: []api.Bind{{Queue: "a", Pattern: "x"}}}
}

func wrongSubs(list map[string]api.Core) {
	bad := func(what string, change func(c *api.Core)) { list["subscriptions: "+what] = with(change) }
	list["subscriptions: 33"] = oneMore(func(c *api.Core) {
		c.Subs = append(c.Subs, api.Sub{Conn: 7, Sub: 4, Queue: "q00", Window: 1})
	})
	bad("connections that fall", func(c *api.Core) { c.Subs[1], c.Subs[2] = c.Subs[2], c.Subs[1] })
	bad("numbers that fall", func(c *api.Core) { c.Subs[0], c.Subs[1] = c.Subs[1], c.Subs[0] })
	bad("one twice", func(c *api.Core) { c.Subs[1].Sub = 4 })
	bad("one twice, of two queues and windows", func(c *api.Core) { c.Subs[3] = api.Sub{Conn: 2, Sub: 0, Queue: "d", Window: 5, Auto: true} })
	for _, n := range connless {
		bad(fmt.Sprint("Conn ", n), func(c *api.Core) { c.Subs = []api.Sub{{Conn: n, Queue: "a", Window: 1}} })
	}
	for _, n := range subless {
		bad(fmt.Sprint("Sub ", n), func(c *api.Core) { c.Subs = []api.Sub{{Sub: n, Queue: "a", Window: 1}} })
	}
	for at := range 4 {
		for _, n := range windowless {
			bad(fmt.Sprint("a window of ", n, " at ", at), func(c *api.Core) { c.Subs[at].Window = n })
			bad(fmt.Sprint("Auto, a window of ", n, " at ", at), func(c *api.Core) { c.Subs[at].Window, c.Subs[at].Auto = n, true })
		}
		for _, name := range []string{"aa", "z", "", "A"} {
			bad(fmt.Sprintf("to the queue %q at %d", name, at), func(c *api.Core) { c.Subs[at].Queue = name })
		}
	}
	list["subscriptions: without a queue"] = api.Core{Subs: []api.Sub{{Queue: "a", Window: 1}}}
}

func wrongKept(list map[string]api.Core) {
	bad := func(what string, change func(c *api.Core)) { list["retained: "+what] = with(change) }
	list["retained: 17"] = oneMore(func(c *api.Core) { c.Kept = append(c.Kept, rich("l", "more")) })
	bad("topics that fall", func(c *api.Core) { c.Kept[0], c.Kept[1] = c.Kept[1], c.Kept[0] })
	bad("a topic twice", func(c *api.Core) { c.Kept[1].Topic = "k" })
	bad("a topic twice at the end", func(c *api.Core) { c.Kept = append(c.Kept, rich("z", "other")) })
	for at := range 3 {
		bad(fmt.Sprint("no body at ", at), func(c *api.Core) { c.Kept[at].Body = "" })
	}
	for what, m := range wrongMsgs() {
		bad(what, func(c *api.Core) { c.Kept = []api.Msg{m} })
	}
	for _, n := range []int{-1, maxNum + 1} {
		bad(fmt.Sprint("Until ", n), func(c *api.Core) { c.Kept[2].Until = n })
	}
}

func wrongClients(list map[string]api.Core) {
	bad := func(what string, change func(c *api.Core)) { list["clients: "+what] = with(change) }
	list["clients: 17"] = oneMore(func(c *api.Core) { c.Clients = append(c.Clients, api.Client{Name: "d", Packets: []int{1}}) })
	list["clients: 33 packets"] = oneMore(func(c *api.Core) { c.Clients[15].Packets = append(c.Clients[15].Packets, 65535) })
	bad("names that fall", func(c *api.Core) { c.Clients[0], c.Clients[1] = c.Clients[1], c.Clients[0] })
	bad("a name twice", func(c *api.Core) { c.Clients[1].Name = "me" })
	for _, name := range nameless {
		bad(fmt.Sprintf("the name %.20q", name), func(c *api.Core) { c.Clients = []api.Client{{Name: name, Packets: []int{1}}} })
	}
	for at := range 2 {
		bad(fmt.Sprint("no packets at ", at), func(c *api.Core) { c.Clients[at].Packets = nil })
		bad(fmt.Sprint("an empty list at ", at), func(c *api.Core) { c.Clients[at].Packets = []int{} })
		for _, n := range packetless {
			bad(fmt.Sprint("the packet ", n, " at ", at), func(c *api.Core) { c.Clients[at].Packets = []int{n} })
		}
		bad(fmt.Sprint("packets that fall at ", at), func(c *api.Core) { c.Clients[at].Packets = []int{1, 3, 2} })
		bad(fmt.Sprint("a packet twice at ", at), func(c *api.Core) { c.Clients[at].Packets = []int{1, 7, 7} })
		bad(fmt.Sprint("a packet beyond, behind others, at ", at), func(c *api.Core) { c.Clients[at].Packets = []int{1, 7, 65536} })
		bad(fmt.Sprint("the packet 0 ahead of others, at ", at), func(c *api.Core) { c.Clients[at].Packets = []int{0, 7} })
	}
}

// plainOps: of each kind an operation that the base has something for.
func plainOps() map[int]api.Op {
	return map[int]api.Op{
		declare:     {Kind: declare, Queue: "e", N: 3},
		remove:      {Kind: remove, Queue: "a"},
		bind:        {Kind: bind, Queue: "a", Text: "k.#", Keep: true, Conn: 3, Sub: 2},
		unbind:      {Kind: unbind, Queue: "a", Text: "n.*"},
		publish:     {Kind: publish, Msg: rich("n.o", "new"), Keep: true, Text: "me", N: 8},
		release:     {Kind: release, Text: "me", N: 7},
		forget:      {Kind: forget, Text: "me"},
		subscribe:   {Kind: subscribe, Conn: 0, Sub: 3, Queue: "a", N: 1},
		unsubscribe: {Kind: unsubscribe, Conn: 1, Sub: 4},
		get:         {Kind: get, Conn: 3, Sub: 3, Queue: "a"},
		ack:         {Kind: ack, Conn: 1, Queue: "a", N: 2},
		nack:        {Kind: nack, Conn: 1, Queue: "a", N: 2, Auto: true},
		detach:      {Kind: detach, Conn: 1},
		tick:        {Kind: tick, N: 3},
	}
}

func TestP11_1_CoresThatCanBe(t *testing.T) {
	for what, c := range rightCores() {
		if !core.Good(c) || !can(c) {
			t.Errorf("%s: can be", what)
			continue
		}
		is(t, what+": Copy", core.Copy(c), c)
		if a := do(c, api.Op{Kind: release, Text: "nobody", N: 1}); a.err != ok {
			t.Errorf("%s: a Release answers %d", what, a.err)
		}
		if a := strip(c); a.err != ok || !core.Good(a.core) {
			t.Errorf("%s: Strip answers %d", what, a.err)
		}
	}
}

func TestP11_1_CoresThatCannotBe(t *testing.T) {
	for what, c := range wrongCores() {
		if core.Good(c) || can(c) {
			t.Errorf("%s: can't be", what)
		}
		is(t, what+": Copy", core.Copy(c), c)
		refused(t, what+": Strip", strip(c), errArg)
		for kind, o := range plainOps() {
			refused(t, fmt.Sprint(what, ": kind ", kind), do(c, o), errArg)
		}
		// What else is wrong comes behind it.
		for kind := range 16 {
			refused(t, fmt.Sprint(what, ": nothing but the kind ", kind), do(c, api.Op{Kind: kind}), errArg)
		}
	}
}

func TestP11_1_NoSuchKind(t *testing.T) {
	for _, kind := range []int{0, 15, -1, 99, 1 << 32, 1<<32 + 1, math.MinInt, math.MaxInt} {
		for _, o := range plainOps() {
			o.Kind = kind
			for what, c := range map[string]api.Core{"zeros": {}, "base": base(), "crowd": crowd()} {
				refused(t, fmt.Sprint(what, ": kind ", kind), do(c, o), errArg)
			}
		}
	}
	for kind, o := range plainOps() {
		if a := do(base(), o); a.err != ok {
			t.Errorf("kind %d: answers %d", kind, a.err)
		}
	}
}

// Copy and Good answer of any core.
func TestP11_1_OfAnyCore(t *testing.T) {
	var many api.Core
	for n := range 1 << 12 {
		many.Queues = append(many.Queues, api.Queue{Name: fmt.Sprint(n), Items: make([]api.Item, n%3)})
		many.Binds = append(many.Binds, api.Bind{Queue: fmt.Sprint(n)})
		many.Subs = append(many.Subs, api.Sub{Conn: n})
		many.Kept = append(many.Kept, rich("", fmt.Sprint(n)))
		many.Clients = append(many.Clients, api.Client{Packets: make([]int, n%5)})
	}
	if core.Good(many) {
		t.Error("a core of many can't be")
	}
	is(t, "Copy of many", core.Copy(many), many)
	refused(t, "Strip of many", strip(many), errArg)
	for _, lists := range []func(c *api.Core){
		func(c *api.Core) { c.Queues = many.Queues },
		func(c *api.Core) { c.Binds = many.Binds },
		func(c *api.Core) { c.Subs = many.Subs },
		func(c *api.Core) { c.Kept = many.Kept },
		func(c *api.Core) { c.Clients = many.Clients },
	} {
		c := with(lists)
		if core.Good(c) {
			t.Error("a core with one list of many can't be")
		}
		is(t, "Copy of one list of many", core.Copy(c), c)
	}
}

// can: whether a core can be, told once more in the chapter's order, one by one.
func can(c api.Core) bool {
	if c.Now < 0 || c.Now > maxNum || len(c.Queues) > 16 || len(c.Binds) > 64 || len(c.Subs) > 32 || len(c.Kept) > 16 || len(c.Clients) > 16 {
		return false
	}
	var queues, binds, subs, kept, clients []string
	for _, q := range c.Queues {
		if !canQueue(q) {
			return false
		}
		queues = append(queues, q.Name)
	}
	for _, b := range c.Binds {
		if !slices.Contains(queues, b.Queue) || !isPattern(b.Pattern) {
			return false
		}
		// Below all that a name may have, so that a name ahead of a longer one stands first.
		binds = append(binds, b.Queue+"\x00"+b.Pattern)
	}
	for _, s := range c.Subs {
		if s.Conn < 0 || s.Conn > 7 || s.Sub < 0 || s.Sub > maxNum || s.Window < 1 || s.Window > 32 || !slices.Contains(queues, s.Queue) {
			return false
		}
		subs = append(subs, fmt.Sprintf("%d %020d", s.Conn, s.Sub))
	}
	for _, m := range c.Kept {
		if !canMsg(m) || m.Body == "" {
			return false
		}
		kept = append(kept, m.Topic)
	}
	for _, k := range c.Clients {
		if !isName(k.Name) || len(k.Packets) < 1 || len(k.Packets) > 32 {
			return false
		}
		last := 0
		for _, p := range k.Packets {
			if p <= last || p > 65535 {
				return false
			}
			last = p
		}
		clients = append(clients, k.Name)
	}
	return rising(queues) && rising(binds) && rising(subs) && rising(kept) && rising(clients)
}

func rising(list []string) bool {
	for at := 1; at < len(list); at++ {
		if list[at-1] >= list[at] {
			return false
		}
	}
	return true
}
