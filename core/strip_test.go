package core_test

import (
	"fmt"
	"math/rand"
	"slices"
	"testing"

	"trivet/api"
	"trivet/core"
)

func TestP11_1_Strip(t *testing.T) {
	again := func(i api.Item) api.Item { i.Again = true; return i }
	c := base()
	want := base()
	want.Subs = nil
	a, k := c.Queues[0], c.Queues[2]
	a.Items = []api.Item{again(a.Held[2].Item), a.Items[0], again(a.Held[0].Item), a.Items[1], again(a.Held[1].Item)}
	a.Held = nil
	// What waits in c isn't durable, what is held is.
	k.Items, k.Held = []api.Item{again(k.Held[0].Item)}, nil
	want.Queues = []api.Queue{a, k, c.Queues[3]}
	want.Binds = []api.Bind{c.Binds[0], c.Binds[1], c.Binds[3]}
	leads(t, "the base", strip(c), want)
	leads(t, "zeros", strip(api.Core{}), api.Core{})
	leads(t, "the crowd", strip(crowd()), func() api.Core { c := crowd(); c.Subs = nil; return c }())
	// A message that is held and not durable is gone too.
	c.Queues[2].Held[0].Item.Msg.Durable = false
	want.Queues[1].Items = nil
	leads(t, "a fleeting one is held", strip(c), want)
	// Nothing goes for its tick, nor by a pump; what is retained stays, durable or not.
	c = with(func(c *api.Core) { c.Now = maxNum })
	if after := strip(c); after.core.Now != maxNum || len(after.core.Queues[0].Items) != 5 || len(after.core.Kept) != 3 || len(after.core.Clients) != 2 {
		t.Errorf("late: %+v", after)
	}
	// Durable messages of a queue that isn't are gone with it, whoever holds them.
	c = with(func(c *api.Core) {
		for at := range c.Queues {
			c.Queues[at].Durable = false
		}
	})
	leads(t, "nothing is durable", strip(c), api.Core{Now: c.Now, Kept: c.Kept, Clients: c.Clients})
}

// What each of the eight connections holds is put back, of any subscription.
func TestP11_1_StripOfEachConnection(t *testing.T) {
	q := api.Queue{Name: "q", Durable: true, Depth: 16, Seq: 16, Tag: 16}
	for n := range 16 {
		q.Held = append(q.Held, api.Held{Tag: n + 1, Conn: n % 8, Sub: n * maxNum / 15, Item: item(16-n, fmt.Sprint(16-n))})
	}
	a := strip(api.Core{Queues: []api.Queue{q}})
	stands(t, "Strip", done(t, "Strip", a), "q", "1+ 2+ 3+ 4+ 5+ 6+ 7+ 8+ 9+ 10+ 11+ 12+ 13+ 14+ 15+ 16+", "")
	if a.core.Queues[0].Seq != 16 || a.core.Queues[0].Tag != 16 {
		t.Errorf("the numbers given last: %+v", a.core.Queues[0])
	}
}

func TestP11_5_StripOfAStrip(t *testing.T) {
	all := rightCores()
	r := rand.New(rand.NewSource(115))
	for n := range 500 {
		all[fmt.Sprint("core ", n)] = someStart(r)
	}
	for what, c := range all {
		first := strip(c)
		if first.err != ok || !core.Good(first.core) {
			t.Fatalf("%s: Strip answers %d", what, first.err)
		}
		leads(t, what+": twice", strip(first.core), first.core)
		part(t, what, first.core, c)
	}
}

// part: that what a Strip left is a part of what was there.
func part(t *testing.T, what string, left, was api.Core) {
	t.Helper()
	if left.Now != was.Now || !same(left.Kept, was.Kept) || !same(left.Clients, was.Clients) || len(left.Subs) != 0 {
		t.Errorf("%s: leaves %+v", what, left)
	}
	for _, b := range left.Binds {
		if !slices.Contains(was.Binds, b) {
			t.Errorf("%s: the bind %v wasn't there", what, b)
		}
	}
	for _, q := range left.Queues {
		at := slices.IndexFunc(was.Queues, func(o api.Queue) bool { return o.Name == q.Name })
		if at < 0 || !q.Durable || len(q.Held) != 0 {
			t.Fatalf("%s: leaves the queue %+v", what, q)
		}
		old := was.Queues[at]
		if q.Depth != old.Depth || q.Seq != old.Seq || q.Tag != old.Tag || !old.Durable {
			t.Errorf("%s: the queue %s is another", what, q.Name)
		}
		for _, i := range q.Items {
			waited := slices.ContainsFunc(old.Items, func(o api.Item) bool { return same(o, i) })
			held := slices.ContainsFunc(old.Held, func(h api.Held) bool { return i.Again && h.Item.Seq == i.Seq && same(h.Item.Msg, i.Msg) })
			if !waited && !held || !i.Msg.Durable {
				t.Errorf("%s: %d of %s wasn't there", what, i.Seq, q.Name)
			}
		}
		count := 0
		for _, i := range old.Items {
			if i.Msg.Durable {
				count++
			}
		}
		for _, h := range old.Held {
			if h.Item.Msg.Durable {
				count++
			}
		}
		if len(q.Items) != count {
			t.Errorf("%s: %d of %d are left in %s", what, len(q.Items), count, q.Name)
		}
	}
	for _, q := range was.Queues {
		if q.Durable && !slices.ContainsFunc(left.Queues, func(o api.Queue) bool { return o.Name == q.Name }) {
			t.Errorf("%s: the queue %s is gone", what, q.Name)
		}
	}
	for _, b := range was.Binds {
		stays := slices.ContainsFunc(left.Queues, func(q api.Queue) bool { return q.Name == b.Queue })
		if stays != slices.Contains(left.Binds, b) {
			t.Errorf("%s: the bind %v: %t", what, b, !stays)
		}
	}
}
