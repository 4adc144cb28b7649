package image_test

import (
	"fmt"
	"math"
	"math/rand"
	"slices"
	"strings"
	"testing"

	"trivet/api"
	"trivet/core"
	"trivet/image"
)

// rightCores: cores that can be, at their edges.
func rightCores() map[string]api.Core {
	list := map[string]api.Core{"all zeros": {}, "the base": base(), "as many of all as there may be": crowd(small)}
	list["empty lists"] = api.Core{Queues: []api.Queue{}, Binds: []api.Bind{}, Subs: []api.Sub{}, Kept: []api.Msg{}, Clients: []api.Client{}}
	good := func(what string, change func(c *api.Core)) { list[what] = with(change) }
	for _, n := range []int{0, 1, maxNum - 1, maxNum} {
		good(fmt.Sprint("Now ", n), func(c *api.Core) { c.Now = n })
		good(fmt.Sprint("Sub ", n), func(c *api.Core) { c.Subs[2].Sub = n })
		good(fmt.Sprint("a held one's Sub ", n), func(c *api.Core) { c.Queues[0].Held[1].Sub = n })
		good(fmt.Sprint("Seq and Tag ", n), func(c *api.Core) { c.Queues[2].Seq, c.Queues[2].Tag = n, n })
	}
	for _, n := range []int{0, 1, 7} {
		list[fmt.Sprint("Conn ", n)] = api.Core{Queues: []api.Queue{{Name: "a", Depth: 1}}, Subs: []api.Sub{{Conn: n, Queue: "a", Window: 1}}}
		good(fmt.Sprint("a held one's Conn ", n), func(c *api.Core) { c.Queues[0].Held[1].Conn = n })
	}
	for _, n := range []int{1, 64} {
		list[fmt.Sprint("depth ", n)] = api.Core{Queues: []api.Queue{{Name: "a", Depth: n}}}
	}
	for _, so := range []bool{false, true} {
		good(fmt.Sprint("Durable ", so), func(c *api.Core) { c.Queues[0].Durable, c.Queues[1].Durable = so, !so })
		good(fmt.Sprint("Again ", so), func(c *api.Core) { c.Queues[0].Items[0].Again, c.Queues[0].Held[0].Item.Again = so, !so })
		good(fmt.Sprint("Auto ", so), func(c *api.Core) { c.Subs[0].Auto, c.Subs[1].Auto = so, !so })
	}
	for what, m := range rightMsgs() {
		good(what+" waits", func(c *api.Core) { c.Queues[0].Items[1].Msg = m })
		good(what+" is held", func(c *api.Core) { c.Queues[0].Held[1].Item.Msg = m })
		good(what+" is retained", func(c *api.Core) { c.Kept = []api.Msg{m} })
	}
	good("names of 16", func(c *api.Core) {
		c.Queues[2].Name, c.Clients[1].Name = strings.Repeat("z", 16), strings.Repeat("y", 16)
		c.Subs[1].Queue = c.Queues[2].Name
	})
	good("something waits that a subscription could have", func(c *api.Core) { c.Subs[0].Window = 32 })
	good("something waits that is no more", func(c *api.Core) { c.Now = 2000 })
	good("packets at their edges", func(c *api.Core) { c.Clients[0].Packets, c.Clients[1].Packets = []int{1}, []int{65535} })
	addAlone(list)
	return list
}

// addAlone: the base with one list alone of all that need no other.
func addAlone(list map[string]api.Core) {
	c := base()
	list["queues alone"] = api.Core{Queues: c.Queues}
	list["queues and binds alone"] = api.Core{Queues: c.Queues, Binds: c.Binds}
	list["queues and subscriptions alone"] = api.Core{Queues: c.Queues, Subs: c.Subs}
	list["retained alone"] = api.Core{Kept: c.Kept}
	list["clients alone"] = api.Core{Clients: c.Clients}
	list["Now alone"] = api.Core{Now: c.Now}
	list["what waits alone"] = api.Core{Queues: []api.Queue{{Name: "a", Depth: 6, Seq: 9, Items: c.Queues[0].Items}}}
	list["what is held alone"] = api.Core{Queues: []api.Queue{{Name: "a", Depth: 6, Seq: 9, Tag: 5, Held: c.Queues[0].Held}}}
}

// oneMore: a core with as many of all as there may be, changed.
func oneMore(change func(c *api.Core)) api.Core {
	c := crowd(small)
	change(&c)
	return c
}

// wrongCores: cores that can't be, each for one cause.
func wrongCores() map[string]api.Core {
	list := map[string]api.Core{}
	for _, n := range numless {
		list[fmt.Sprint("Now ", n)] = with(func(c *api.Core) { c.Now = n })
		list[fmt.Sprint("nothing but Now ", n)] = api.Core{Now: n}
	}
	addCrowds(list)
	addQueues(list)
	addOthers(list)
	return list
}

// addCrowds: one more than there may be.
func addCrowds(list map[string]api.Core) {
	list["17 queues"] = oneMore(func(c *api.Core) { c.Queues = append(c.Queues, api.Queue{Name: "r", Depth: 1}) })
	list["65 binds"] = oneMore(func(c *api.Core) { c.Binds = append(c.Binds, api.Bind{Queue: "q15", Pattern: "x"}) })
	list["33 subscriptions"] = oneMore(func(c *api.Core) { c.Subs = append(c.Subs, api.Sub{Conn: 7, Sub: 9, Queue: "q00", Window: 1}) })
	list["17 retained"] = oneMore(func(c *api.Core) { c.Kept = append(c.Kept, rich("l", "more")) })
	list["17 clients"] = oneMore(func(c *api.Core) { c.Clients = append(c.Clients, api.Client{Name: "d", Packets: []int{1}}) })
	list["33 packets"] = oneMore(func(c *api.Core) { c.Clients[7].Packets = slices.Insert(c.Clients[7].Packets, 0, 1) })
	list["65 in a queue, one more waits"] = oneMore(func(c *api.Core) {
		c.Queues[7].Items = slices.Insert(c.Queues[7].Items, 0, api.Item{Seq: 1, Msg: small(1)})
	})
	list["65 in a queue, one more is held"] = oneMore(func(c *api.Core) {
		c.Queues[7].Held = slices.Insert(c.Queues[7].Held, 0, api.Held{Tag: 1, Item: api.Item{Seq: 1, Msg: small(1)}})
	})
	list["65 in a queue of 65"] = oneMore(func(c *api.Core) {
		c.Queues[7].Depth, c.Queues[7].Items = 65, slices.Insert(c.Queues[7].Items, 0, api.Item{Seq: 1, Msg: small(1)})
	})
	list["more than its depth"] = with(func(c *api.Core) { c.Queues[0].Depth = 4 })
}

func addQueues(list map[string]api.Core) {
	bad := func(what string, change func(c *api.Core)) { list["queues: "+what] = with(change) }
	bad("names that fall", func(c *api.Core) { c.Queues[1], c.Queues[2] = c.Queues[2], c.Queues[1] })
	bad("a name twice", func(c *api.Core) { c.Queues[1].Name = "a" })
	for _, name := range nameless {
		list[fmt.Sprintf("queues: the name %q", name)] = api.Core{Queues: []api.Queue{{Name: name, Depth: 1}}}
	}
	for _, n := range []int{0, 65, -1, math.MinInt, math.MaxInt} {
		bad(fmt.Sprint("depth ", n), func(c *api.Core) { c.Queues[2].Depth = n })
	}
	for _, n := range numless {
		bad(fmt.Sprint("Seq ", n), func(c *api.Core) { c.Queues[2].Seq = n })
		bad(fmt.Sprint("Tag ", n), func(c *api.Core) { c.Queues[2].Tag = n })
		bad(fmt.Sprint("a held one's Sub ", n), func(c *api.Core) { c.Queues[0].Held[2].Sub = n })
	}
	for _, n := range connless {
		bad(fmt.Sprint("a held one's Conn ", n), func(c *api.Core) { c.Queues[0].Held[2].Conn = n })
	}
	bad("numbers that fall", func(c *api.Core) { c.Queues[0].Items[1].Seq = 2 })
	bad("the number 0", func(c *api.Core) { c.Queues[0].Items[0].Seq = 0 })
	bad("a number that wasn't given", func(c *api.Core) { c.Queues[0].Items[1].Seq = 10 })
	bad("a held number that wasn't given", func(c *api.Core) { c.Queues[0].Held[1].Item.Seq = 10 })
	bad("a number that waits and is held", func(c *api.Core) { c.Queues[0].Held[1].Item.Seq = 3 })
	bad("a number that is held twice", func(c *api.Core) { c.Queues[0].Held[1].Item.Seq = 4 })
	bad("tags that fall", func(c *api.Core) { c.Queues[0].Held[1].Tag = 1 })
	bad("a tag twice", func(c *api.Core) { c.Queues[0].Held[1].Tag = 2 })
	bad("the tag 0", func(c *api.Core) { c.Queues[0].Held[0].Tag = 0 })
	bad("a tag that wasn't given", func(c *api.Core) { c.Queues[0].Held[2].Tag = 6 })
	for what, m := range wrongMsgs() {
		bad(what+" waits", func(c *api.Core) { c.Queues[0].Items[1].Msg = m })
		bad(what+" is held", func(c *api.Core) { c.Queues[1].Held[0].Item.Msg = m })
	}
}

func addOthers(list map[string]api.Core) {
	bad := func(what string, change func(c *api.Core)) { list[what] = with(change) }
	bad("binds that fall", func(c *api.Core) { c.Binds[0], c.Binds[1] = c.Binds[1], c.Binds[0] })
	bad("a bind twice", func(c *api.Core) { c.Binds[1] = c.Binds[0] })
	bad("a bind of no queue", func(c *api.Core) { c.Binds[2].Queue = "z" })
	list["a bind alone"] = api.Core{Binds: []api.Bind{{Queue: "a", Pattern: "x"}}}
	for _, s := range patternless {
		bad(fmt.Sprintf("the pattern %q", s), func(c *api.Core) { c.Binds[2].Pattern = s })
	}
	bad("subscriptions that fall", func(c *api.Core) { c.Subs[0], c.Subs[1] = c.Subs[1], c.Subs[0] })
	bad("a subscription twice", func(c *api.Core) { c.Subs[1].Sub = 4 })
	bad("a subscription to no queue", func(c *api.Core) { c.Subs[1].Queue = "z" })
	list["a subscription alone"] = api.Core{Subs: []api.Sub{{Queue: "a", Window: 1}}}
	for _, n := range connless {
		bad(fmt.Sprint("Conn ", n), func(c *api.Core) { c.Subs = []api.Sub{{Conn: n, Queue: "a", Window: 1}} })
	}
	for _, n := range numless {
		bad(fmt.Sprint("Sub ", n), func(c *api.Core) { c.Subs = []api.Sub{{Sub: n, Queue: "a", Window: 1}} })
	}
	for _, n := range windowless {
		bad(fmt.Sprint("a window of ", n), func(c *api.Core) { c.Subs[1].Window = n })
	}
	bad("retained that fall", func(c *api.Core) { c.Kept[0], c.Kept[1] = c.Kept[1], c.Kept[0] })
	bad("a topic retained twice", func(c *api.Core) { c.Kept[1].Topic = "k" })
	bad("a retained one without a body", func(c *api.Core) { c.Kept[1].Body = "" })
	for what, m := range wrongMsgs() {
		bad(what+" is retained", func(c *api.Core) { c.Kept = []api.Msg{m} })
	}
	bad("clients that fall", func(c *api.Core) { c.Clients[0], c.Clients[1] = c.Clients[1], c.Clients[0] })
	bad("a client twice", func(c *api.Core) { c.Clients[1].Name = "me" })
	for _, name := range nameless {
		bad(fmt.Sprintf("the client %q", name), func(c *api.Core) { c.Clients = []api.Client{{Name: name, Packets: []int{1}}} })
	}
	for _, n := range packetless {
		bad(fmt.Sprint("the packet ", n), func(c *api.Core) { c.Clients[1].Packets = []int{n} })
	}
	bad("no packets", func(c *api.Core) { c.Clients[0].Packets = nil })
	bad("packets that fall", func(c *api.Core) { c.Clients[0].Packets = []int{1, 7, 6} })
	bad("a packet twice", func(c *api.Core) { c.Clients[0].Packets = []int{1, 7, 7} })
}

// encoded: that a core has these bytes, and is read from them.
func encoded(t *testing.T, what string, c api.Core) {
	t.Helper()
	b, err := image.Encode(c)
	if want := coreParts(c).bytes(); err != ok || string(b) != string(want) {
		t.Errorf("%s: Encode answers %d, %.1000q\nnot %.1000q", what, err, b, want)
		return
	}
	is(t, what+": Decode", got(image.Decode(b)), answer[api.Core]{what: c})
}

func TestP13_1_ExamplesOfCores(t *testing.T) {
	queue := api.Queue{Name: "q", Durable: true, Depth: 4, Seq: 2, Tag: 1, Items: []api.Item{{Seq: 2, Again: true, Msg: api.Msg{Topic: "a", Body: "hi", Until: 9}}}}
	queue.Held = []api.Held{{Tag: 1, Conn: 3, Sub: 8, Item: api.Item{Seq: 1, Msg: api.Msg{Topic: "b", Durable: true, Props: props(1)}}}}
	for want, c := range map[string]api.Core{
		"0;0;0;0;0;0;":                 {},
		"7;0;0;0;0;0;":                 {Now: 7},
		"0;1;1:q,0;5;0;0;0;0;0;0;0;0;": {Queues: []api.Queue{{Name: "q", Depth: 5}}},
		"0;1;1:q,1;4;2;1;1;2;1;1:a,2:hi,0;9;0;1;1;3;8;1;0;1:b,0:,1;0;1;3:p00,2:i0,0;0;0;0;": {Queues: []api.Queue{queue}},
		"1;1;1:q,0;5;0;0;0;0;2;1:q,1:#,1:q,3:a.*,1;2;3;1:q,4;1;1;1:t,1:x,0;0;0;2;2:me,2;6;7;3:you,1;65535;": {
			Now: 1, Queues: []api.Queue{{Name: "q", Depth: 5}},
			Binds:   []api.Bind{{Queue: "q", Pattern: "#"}, {Queue: "q", Pattern: "a.*"}},
			Subs:    []api.Sub{{Conn: 2, Sub: 3, Queue: "q", Window: 4, Auto: true}},
			Kept:    []api.Msg{{Topic: "t", Body: "x"}},
			Clients: []api.Client{{Name: "me", Packets: []int{6, 7}}, {Name: "you", Packets: []int{65535}}},
		},
	} {
		if b, err := image.Encode(c); err != ok || string(b) != want {
			t.Errorf("Encode answers %d, %q, not %q", err, b, want)
		}
		is(t, want, got(image.Decode([]byte(want))), answer[api.Core]{what: c})
	}
	for _, b := range [][]byte{nil, {}} {
		refused(t, "no byte", got(image.Decode(b)), errForm)
	}
}

func TestP13_1_CoresThatCanBe(t *testing.T) {
	for what, c := range rightCores() {
		if !core.Good(c) {
			t.Errorf("%s: can be", what)
		}
		encoded(t, what, c)
	}
}

func TestP13_1_CoresThatCannotBe(t *testing.T) {
	for what, c := range wrongCores() {
		if core.Good(c) {
			t.Errorf("%s: can't be", what)
		}
		refused(t, what, got(image.Encode(c)), errArg)
		refused(t, what+": its bytes", got(image.Decode(coreParts(c).bytes())), errForm)
	}
	for what, m := range blurredMsgs() {
		refused(t, what+" waits", got(image.Encode(with(func(c *api.Core) { c.Queues[0].Items[0].Msg = m }))), errArg)
		refused(t, what+" is held", got(image.Encode(with(func(c *api.Core) { c.Queues[0].Held[2].Item.Msg = m }))), errArg)
		refused(t, what+" is retained", got(image.Encode(with(func(c *api.Core) { c.Kept = []api.Msg{m} }))), errArg)
	}
}

// Of lists that are far too long the answer comes, too.
func TestP1_CoresOfMany(t *testing.T) {
	var many api.Core
	for n := range 1 << 12 {
		many.Queues = append(many.Queues, api.Queue{Name: fmt.Sprintf("%05d", n), Depth: 1})
		many.Binds = append(many.Binds, api.Bind{Queue: fmt.Sprintf("%05d", n), Pattern: "#"})
		many.Subs = append(many.Subs, api.Sub{Sub: n, Queue: "00000", Window: 1})
		many.Kept = append(many.Kept, rich(fmt.Sprintf("%05d", n), "x"))
		many.Clients = append(many.Clients, api.Client{Name: fmt.Sprintf("%05d", n), Packets: []int{1}})
	}
	refused(t, "many", got(image.Encode(many)), errArg)
	refused(t, "many: the bytes", got(image.Decode(coreParts(many).bytes())), errForm)
}

func TestP13_2_SomeCores(t *testing.T) {
	r := rand.New(rand.NewSource(133))
	for range 400 {
		c := someCore(r)
		encoded(t, "some core", c)
		// And what is read leads on as what was written does.
		b, _ := image.Encode(c)
		read, _ := image.Decode(b)
		o := someOp(r)
		after, out, err := core.Do(c, o)
		afterRead, outRead, errRead := core.Do(read, o)
		is(t, "the core behind an operation", got(afterRead, errRead), got(after, err))
		is(t, "what is handed out", outRead, out)
	}
}

// The greatest core there is: some six millions of bytes, which are written and read in one go, not copied for each number.
func TestP13_2_TheGreatestCore(t *testing.T) {
	long := props(16)
	for at := range long {
		long[at] = api.Prop{Name: fmt.Sprintf("%016d", at), Value: api.Value{Kind: 3, Text: strings.Repeat(":", 256)}}
	}
	c := crowd(func(int) api.Msg {
		return api.Msg{Topic: strings.Repeat("abcdefg.", 7) + "abcdefgh", Body: strings.Repeat("x", 1023), Props: long, Durable: true, Until: maxNum}
	})
	b := coreParts(c).bytes()
	if len(b) < 5<<20 {
		t.Errorf("only %d bytes", len(b))
	}
	encoded(t, "the greatest core", c)
	refused(t, "a byte less", got(image.Decode(b[:len(b)-1])), errForm)
	refused(t, "a byte more", got(image.Decode(append(b, ';'))), errForm)
}
