package core

import (
	"cmp"
	"slices"

	"trivet/api"
	"trivet/prop"
	"trivet/queue"
	"trivet/topic"
)

// anySub, in layer 10's Release, stands for all subscriptions of a connection.
const anySub = -1

// turn is a core under way, in memory of its own, and what was handed out on the way. If it is given up, it is thrown away: so nothing is ever half done.
type turn struct {
	api.Core
	out []api.Out
}

// operation: what a kind of operation does to a turn; nil, if there is no such kind.
func operation(kind int) func(*turn, api.Op) {
	all := [...]func(*turn, api.Op){
		api.OpDeclare:     (*turn).declare,
		api.OpDelete:      (*turn).remove,
		api.OpBind:        (*turn).bind,
		api.OpUnbind:      (*turn).unbind,
		api.OpPublish:     (*turn).publish,
		api.OpRelease:     (*turn).release,
		api.OpForget:      (*turn).forget,
		api.OpSubscribe:   (*turn).subscribe,
		api.OpUnsubscribe: (*turn).unsubscribe,
		api.OpGet:         (*turn).get,
		api.OpAck:         func(t *turn, o api.Op) { t.settle(o, false) },
		api.OpNack:        func(t *turn, o api.Op) { t.settle(o, o.Auto) },
		api.OpDetach:      (*turn).detach,
		api.OpTick:        (*turn).tick,
	}
	if kind < 0 || kind >= len(all) {
		return nil
	}
	return all[kind]
}

// guarded: the error for which what is done was given up; OK, if it was done.
func guarded(do func()) (err api.Errno) {
	defer func() {
		switch why := recover().(type) {
		case nil:
		case api.Errno:
			err = why
		default:
			// No giving up: to answer it as an error would hide a fault of the program.
			panic(why)
		}
	}()
	do()
	return api.OK
}

// insist gives up what is done, with this error, if something isn't so.
func insist(so bool, err api.Errno) {
	if !so {
		panic(err)
	}
}

// sure: the queue that a call of layer 10 answers; its error gives up what is done.
func sure(q api.Queue, err api.Errno) api.Queue {
	insist(err == api.OK, err)
	return q
}

// named: the turn's queue of this name, to be changed on the spot; gives up with ErrNone.
func (t *turn) named(name string) *api.Queue {
	at, there := find(t.Queues, api.Queue{Name: name}, byName)
	insist(there, api.ErrNone)
	return &t.Queues[at]
}

// declare: a queue is there.
func (t *turn) declare(o api.Op) {
	at, there := find(t.Queues, api.Queue{Name: o.Queue}, byName)
	if there {
		q := t.Queues[at]
		insist(q.Durable == o.Durable && q.Depth == o.N, api.ErrThere)
		return
	}
	q := sure(queue.New(o.Queue, o.Durable, o.N))
	t.Queues = enter(t.Queues, q, byName, api.MaxQueues)
}

// remove: a queue is gone, with what leads to it and from it.
func (t *turn) remove(o api.Op) {
	q := api.Queue{Name: o.Queue}
	insist(has(t.Queues, q, byName), api.ErrNone)
	t.Queues = leave(t.Queues, q, byName)
	t.Binds = slices.DeleteFunc(t.Binds, func(b api.Bind) bool { return b.Queue == o.Queue })
	t.Subs = slices.DeleteFunc(t.Subs, func(s api.Sub) bool { return s.Queue == o.Queue })
}

// bind: a pattern leads to a queue; with Keep, what is retained of it is handed out.
func (t *turn) bind(o api.Op) {
	insist(hasQueue(t.Core, o.Queue), api.ErrNone)
	insist(topic.Pattern(o.Text), api.ErrTopic)
	t.Binds = enter(t.Binds, api.Bind{Queue: o.Queue, Pattern: o.Text}, byPattern, api.MaxBinds)
	if o.Keep {
		insist(isSub(o.Conn, o.Sub), api.ErrArg)
		t.handKept(o)
	}
}

// handKept hands out the retained messages of a pattern.
func (t *turn) handKept(o api.Op) {
	for _, m := range t.Kept {
		if topic.Match(o.Text, m.Topic) {
			t.out = append(t.out, api.Out{Conn: o.Conn, Sub: o.Sub, Queue: o.Queue, Kept: true, Msg: copyMsg(m)})
		}
	}
}

// unbind: a pattern leads to a queue no more.
func (t *turn) unbind(o api.Op) {
	b := api.Bind{Queue: o.Queue, Pattern: o.Text}
	insist(has(t.Binds, b, byPattern), api.ErrNone)
	t.Binds = leave(t.Binds, b, byPattern)
}

// publish: a message waits in the queues that it is for; with Keep, it is retained.
func (t *turn) publish(o api.Op) {
	insist(queue.Message(o.Msg), api.ErrMsg)
	if o.Text != "" && !t.isNew(o.Text, o.N) {
		return
	}
	t.push(o.Msg, t.route(o))
	if o.Keep {
		t.retain(o.Msg)
	}
}

// isNew: whether a client's packet wasn't there; it is from now on.
func (t *turn) isNew(name string, packet int) bool {
	insist(prop.Name(name), api.ErrName)
	insist(isPacket(packet), api.ErrArg)
	client := api.Client{Name: name}
	if at, there := find(t.Clients, client, byClient); there {
		client = t.Clients[at]
	}
	if has(client.Packets, packet, cmp.Compare[int]) {
		return false
	}
	client.Packets = enter(client.Packets, packet, cmp.Compare[int], api.MaxPackets)
	t.Clients = enter(t.Clients, client, byClient, api.MaxClients)
	return true
}

// route: tells of a queue whether a publish is for it.
func (t *turn) route(o api.Op) func(api.Queue) bool {
	if o.Queue != "" {
		insist(hasQueue(t.Core, o.Queue), api.ErrNone)
		return func(q api.Queue) bool { return q.Name == o.Queue }
	}
	return func(q api.Queue) bool {
		return slices.ContainsFunc(t.Binds, func(b api.Bind) bool {
			return b.Queue == q.Name && topic.Match(b.Pattern, o.Msg.Topic)
		})
	}
}

// push lays a message into each queue that it is for, unless it is no more already.
func (t *turn) push(m api.Msg, meant func(api.Queue) bool) {
	if m.Until > 0 && m.Until <= t.Now {
		return
	}
	for at, q := range t.Queues {
		if meant(q) {
			t.Queues[at] = sure(queue.Push(q, m))
		}
	}
}

// retain: a message is its topic's; one without a body takes away what was.
func (t *turn) retain(m api.Msg) {
	if m.Body == "" {
		t.Kept = leave(t.Kept, m, byTopic)
		return
	}
	t.Kept = enter(t.Kept, copyMsg(m), byTopic, api.MaxKept)
}

// release: a client has a packet no more, and is there no more without any.
func (t *turn) release(o api.Op) {
	insist(prop.Name(o.Text), api.ErrName)
	at, there := find(t.Clients, api.Client{Name: o.Text}, byClient)
	if !there {
		return
	}
	client := &t.Clients[at]
	client.Packets = leave(client.Packets, o.N, cmp.Compare[int])
	if len(client.Packets) == 0 {
		t.forget(o)
	}
}

// forget: a client is there no more.
func (t *turn) forget(o api.Op) {
	insist(prop.Name(o.Text), api.ErrName)
	t.Clients = leave(t.Clients, api.Client{Name: o.Text}, byClient)
}

// subscribe: a subscription is there.
func (t *turn) subscribe(o api.Op) {
	insist(isSub(o.Conn, o.Sub) && isWindow(o.N), api.ErrArg)
	insist(hasQueue(t.Core, o.Queue), api.ErrNone)
	s := api.Sub{Conn: o.Conn, Sub: o.Sub, Queue: o.Queue, Window: o.N, Auto: o.Auto}
	insist(!has(t.Subs, s, byNumber), api.ErrThere)
	t.Subs = enter(t.Subs, s, byNumber, api.MaxSubs)
}

// unsubscribe: a subscription is gone, and what it holds is put back.
func (t *turn) unsubscribe(o api.Op) {
	at, there := find(t.Subs, api.Sub{Conn: o.Conn, Sub: o.Sub}, byNumber)
	insist(there, api.ErrNone)
	q := t.named(t.Subs[at].Queue)
	*q = sure(queue.Release(*q, o.Conn, o.Sub))
	t.Subs = slices.Delete(t.Subs, at, at+1)
}

// get: the first one that waits is handed out, subscribed or not.
func (t *turn) get(o api.Op) {
	insist(isSub(o.Conn, o.Sub), api.ErrArg)
	q := t.named(o.Queue)
	*q = sure(queue.Expire(*q, t.Now))
	t.hand(q, o.Conn, o.Sub, !o.Auto)
}

// settle: what a connection holds by a tag is done with, or put back.
func (t *turn) settle(o api.Op, again bool) {
	q := t.named(o.Queue)
	*q = sure(queue.Settle(*q, o.Conn, o.N, again))
}

// detach: a connection has no subscriptions, and holds nothing.
func (t *turn) detach(o api.Op) {
	insist(isConn(o.Conn), api.ErrArg)
	t.Subs = slices.DeleteFunc(t.Subs, func(s api.Sub) bool { return s.Conn == o.Conn })
	t.putBack(o.Conn)
}

// tick: it is later.
func (t *turn) tick(o api.Op) {
	// Taken off MaxNum, not added to Now: a sum could wrap round.
	insist(0 <= o.N && o.N <= api.MaxNum-t.Now, api.ErrArg)
	t.Now += o.N
}

// putBack: all that a connection holds is put back.
func (t *turn) putBack(conn int) {
	for at, q := range t.Queues {
		t.Queues[at] = sure(queue.Release(q, conn, anySub))
	}
}

// hand hands out the first one that waits in a queue of the turn.
func (t *turn) hand(q *api.Queue, conn, sub int, hold bool) {
	after, tag, item, err := queue.Take(*q, conn, sub, hold)
	*q = sure(after, err)
	t.out = append(t.out, api.Out{Conn: conn, Sub: sub, Tag: tag, Queue: q.Name, Again: item.Again, Msg: item.Msg})
}

// pump: queue by queue, what is no more goes, and what waits goes to those who may have it.
func (t *turn) pump() {
	for at := range t.Queues {
		q := &t.Queues[at]
		*q = sure(queue.Expire(*q, t.Now))
		for len(q.Items) > 0 {
			next := slices.IndexFunc(t.Subs, func(s api.Sub) bool { return mayHave(s, *q) })
			if next < 0 {
				break
			}
			s := t.Subs[next]
			t.hand(q, s.Conn, s.Sub, !s.Auto)
		}
	}
}

// mayHave: whether a subscription may be handed what waits in a queue.
func mayHave(s api.Sub, q api.Queue) bool {
	return s.Queue == q.Name && (s.Auto || queue.Holds(q, s.Conn, s.Sub) < s.Window)
}

// strip: nobody is subscribed, nothing is held, and what isn't to last is gone.
func (t *turn) strip() {
	t.Subs = nil
	t.Queues = slices.DeleteFunc(t.Queues, func(q api.Queue) bool { return !q.Durable })
	t.Binds = slices.DeleteFunc(t.Binds, func(b api.Bind) bool { return !hasQueue(t.Core, b.Queue) })
	for conn := range api.MaxConns {
		t.putBack(conn)
	}
	for at := range t.Queues {
		q := &t.Queues[at]
		q.Items = slices.DeleteFunc(q.Items, func(i api.Item) bool { return !i.Msg.Durable })
	}
}
