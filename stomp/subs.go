package stomp

import (
	"slices"
	"strconv"

	"trivet/api"
	"trivet/sframe"
	"trivet/topic"
)

// maxSubs: subscriptions that a connection may have at a time.
const maxSubs = 8

// ownQueue: how a subscription's own queue is called.
func ownQueue(conn, sub int) string {
	return "s" + strconv.Itoa(conn) + "-" + strconv.Itoa(sub)
}

// hasOwn: whether a subscription has its own queue.
func hasOwn(n api.Named, conn int) bool {
	return n.Queue == ownQueue(conn, n.Sub)
}

// named: the place of the subscription by an id; -1: there is none.
func (f *front) named(id string) int {
	return slices.IndexFunc(f.Subs, func(n api.Named) bool { return n.Name == id })
}

// subscribe: a subscription is to be there.
func (f *front) subscribe() {
	id := f.must("id")
	insist(len(id) <= maxText && len(f.Subs) < maxSubs && f.named(id) < 0, "id")
	queue, name, err := topic.Find(f.must("destination"))
	insist(err == api.OK, "destination")
	auto := f.auto()
	f.Count++
	ops := []api.Op{{Kind: api.OpDeclare, Queue: name, Durable: true, N: api.MaxDepth}}
	if !queue {
		own := ownQueue(f.conn, f.Count)
		ops = []api.Op{
			{Kind: api.OpDeclare, Queue: own, N: api.MaxDepth},
			{Kind: api.OpBind, Queue: own, Text: name},
		}
		name = own
	}
	f.Subs = append(f.Subs, api.Named{Name: id, Sub: f.Count, Queue: name, Auto: auto})
	f.do(append(ops, api.Op{
		Kind:  api.OpSubscribe,
		Conn:  f.conn,
		Sub:   f.Count,
		Queue: name,
		N:     api.MaxWindow,
		Auto:  auto,
	})...)
}

// auto: whether what the subscription is given needn't be settled.
func (f *front) auto() bool {
	ack, is := sframe.Get(f.frame, "ack")
	insist(!is || ack == "auto" || ack == "client-individual", "ack")
	return ack != "client-individual"
}

// unsubscribe: a subscription is to be there no more.
func (f *front) unsubscribe() {
	at := f.named(f.must("id"))
	insist(at >= 0, "id")
	n := f.Subs[at]
	f.Subs = slices.Delete(f.Subs, at, at+1)
	f.Given = slices.DeleteFunc(f.Given, func(g api.Given) bool { return g.Sub == n.Sub })
	ops := []api.Op{{Kind: api.OpUnsubscribe, Conn: f.conn, Sub: n.Sub}}
	if hasOwn(n, f.conn) {
		ops = append(ops, api.Op{Kind: api.OpDelete, Queue: n.Queue})
	}
	f.do(ops...)
}
