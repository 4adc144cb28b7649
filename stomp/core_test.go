package stomp_test

import (
	"fmt"
	"slices"
	"strings"
	"testing"

	"trivet/api"
	"trivet/core"
	"trivet/sframe"
	"trivet/stomp"
	"trivet/tx"
)

// room is connections that speak to one core, as the broker lets them, without a drum.
type room struct {
	core   api.Core
	fronts [3]api.Stomp
	said   [3]string
	ended  [3]bool
	// How much was settled, and what was to be settled and couldn't be.
	settled int
	refused []api.Op
}

// openedRoom: a room in which all are connected.
func openedRoom() *room {
	m := &room{}
	for conn := range m.fronts {
		m.opens(conn)
	}
	return m
}

// opens: a connection begins.
func (m *room) opens(conn int) {
	m.fronts[conn], m.ended[conn] = stomp.New(), false
	m.in(conn, handshake)
	m.said[conn] = ""
}

// in: bytes come in on a connection, and all that is wanted is done.
func (m *room) in(conn int, bytes string) {
	m.fronts[conn].Rest += bytes
	for !m.ended[conn] {
		after, acts, heard := stomp.Next(m.fronts[conn], conn)
		m.fronts[conn] = after
		m.acts(conn, acts)
		if !heard {
			return
		}
	}
}

// acts: what a front wants is done.
func (m *room) acts(conn int, acts []api.Act) {
	for _, a := range acts {
		m.said[conn] += a.Bytes
		if a.Kind == isEnd {
			m.lost(conn)
		}
		if a.Kind != isDo {
			continue
		}
		after, out, at, err := tx.Run(m.core, a.Ops)
		if err == ok {
			m.core = after
			for _, o := range a.Ops {
				if settles(o) {
					m.settled++
				}
			}
		} else if settles(a.Ops[at]) {
			m.refused = append(m.refused, a.Ops[at])
		}
		s, more := stomp.Told(m.fronts[conn], conn, a, err)
		m.fronts[conn] = s
		m.acts(conn, more)
		m.gives(out)
	}
}

// settles: whether an operation settles what was given.
func settles(o api.Op) bool {
	return o.Kind == opAck || o.Kind == opNack
}

// gives: what is handed out goes out, to who is there.
func (m *room) gives(out []api.Out) {
	for _, o := range out {
		if m.ended[o.Conn] {
			continue
		}
		s, b := stomp.Give(m.fronts[o.Conn], o)
		m.fronts[o.Conn] = s
		m.said[o.Conn] += string(b)
	}
}

// lost: a connection is no more.
func (m *room) lost(conn int) {
	m.ended[conn] = true
	for _, o := range stomp.Lost(m.fronts[conn], conn) {
		if after, out, err := core.Do(m.core, o); err == ok {
			m.core = after
			m.gives(out)
		}
	}
}

// agrees: that what each connection was given and hasn't settled, or has in a transaction, is just what the core holds for it, as long as no transaction was given up.
func (m *room) agrees(t *testing.T, what string) bool {
	t.Helper()
	var held, given []string
	for _, q := range m.core.Queues {
		for _, h := range q.Held {
			held = append(held, fmt.Sprint(h.Conn, " ", q.Name, " ", h.Tag))
		}
	}
	for conn, s := range m.fronts {
		if m.ended[conn] {
			continue
		}
		for _, g := range s.Given {
			given = append(given, fmt.Sprint(conn, " ", g.Queue, " ", g.Tag))
		}
		for _, x := range s.Txs {
			for _, o := range x.Ops {
				if settles(o) {
					given = append(given, fmt.Sprint(conn, " ", o.Queue, " ", o.N))
				}
			}
		}
	}
	slices.Sort(held)
	slices.Sort(given)
	return is(t, what+": what is given", given, held)
}

// someWish: what a client may say, whose transactions are never given up, but by the connection's end.
func someWish(r dice, s api.Stomp) string {
	for {
		in := someFrame(r, s, 2)
		// What a transaction has of a subscription that is no more would be refused.
		lost := strings.Contains(in, "UNSUBSCRIBE") && slices.ContainsFunc(s.Txs, func(x api.Trans) bool { return len(x.Ops) > 0 })
		if !strings.Contains(in, "ABORT") && !lost {
			return in
		}
	}
}

// Over a core all that is wanted of what was given is there, and is settled once.
func TestP19_3_OverACore(t *testing.T) {
	t.Parallel()
	settled, waiting, emptied, wanted := 0, 0, 0, 0
	for seed := range 300 {
		r := thrown(2*seed + 1)
		m := openedRoom()
		for at := range 120 {
			what := fmt.Sprint("row ", seed, ", ", at)
			conn := r.Intn(3)
			if m.ended[conn] {
				m.opens(conn)
			}
			m.in(conn, someWish(r, m.fronts[conn]))
			if !m.agrees(t, what) {
				return
			}
			for _, x := range m.fronts[conn].Txs {
				wanted += len(x.Ops)
			}
		}
		is(t, fmt.Sprint("row ", seed, ": what was settled twice"), m.refused, nil)
		settled += m.settled
		w, e := m.empties(t, fmt.Sprint("row ", seed))
		waiting, emptied = waiting+w, emptied+e
	}
	if settled < 1000 || waiting < 300 || emptied < 300 || wanted < 1000 {
		t.Errorf("settled %d, waiting %d, emptied %d, wanted %d", settled, waiting, emptied, wanted)
	}
}

// empties: that who acknowledges all that it is given empties the queues; how many messages waited there, and how many it was given.
func (m *room) empties(t *testing.T, what string) (waiting, acknowledged int) {
	t.Helper()
	for conn := range m.fronts {
		if !m.ended[conn] {
			m.in(conn, line("DISCONNECT"))
		}
	}
	m.opens(1)
	for at, q := range m.core.Queues {
		waiting += len(q.Items) + len(q.Held)
		if at < 8 {
			m.in(1, line("SUBSCRIBE", "id", q.Name, "destination", "/queue/"+q.Name, "ack", "client-individual"))
		}
	}
	for len(m.fronts[1].Given) > 0 {
		m.in(1, line("ACK", "id", fmt.Sprint(m.fronts[1].Given[0].Num)))
		acknowledged++
	}
	for at, q := range m.core.Queues {
		if at < 8 {
			is(t, what+": what is left in "+q.Name, len(q.Items)+len(q.Held), 0)
		}
	}
	m.agrees(t, what)
	return waiting, acknowledged
}

// What is given is one frame each, that tells what was sent.
func TestP19_1_FromOneToAnother(t *testing.T) {
	m := openedRoom()
	m.in(0, line("SUBSCRIBE", "id", "a", "destination", "/topic/a.*"))
	m.in(1, line("SUBSCRIBE", "id", "b:", "destination", "/queue/q", "ack", "client-individual"))
	m.in(2, wire("SEND", "h\x00i", with(allPairs(), "destination", "/topic/a.b", "persistent", "true", "content-length", "3", "receipt", "r")...))
	m.in(2, line("SEND", "destination", "/queue/q"))
	is(t, "the receipt", m.said[2], line("RECEIPT", "receipt-id", "r"))
	is(t, "by the topic", m.said[0], wire("MESSAGE", "h\x00i", with([]string{"subscription", "a", "message-id", "1", "destination", "/topic/a.b", "persistent", "true"}, with(listed(allProps()), "content-length", "3")...)...))
	is(t, "by the queue", m.said[1], line("MESSAGE", "subscription", "b:", "message-id", "1", "destination", "/queue/q", "ack", "1", "content-length", "0"))
	// Put back it comes once more, marked.
	m.said[1] = ""
	m.in(1, line("NACK", "id", "1"))
	is(t, "put back", m.said[1], line("MESSAGE", "subscription", "b:", "message-id", "2", "destination", "/queue/q", "ack", "2", "redelivered", "true", "content-length", "0"))
	m.in(1, line("ACK", "id", "2"))
	is(t, "nothing is left", len(m.core.Queues[0].Items)+len(m.core.Queues[0].Held), 0)
	// What ends leaves no queue of its own.
	is(t, "queues", len(m.core.Queues), 2)
	m.in(0, line("DISCONNECT"))
	is(t, "queues", len(m.core.Queues), 1)
}

// The document's examples, as far as they are of this layer.
func TestP19_1_ExamplesOfTheWhole(t *testing.T) {
	// BEGIN, SEND twice, the connection breaks: neither was ever there.
	m := openedRoom()
	m.in(1, line("SUBSCRIBE", "id", "a", "destination", "/queue/q"))
	in := line("SEND", "destination", "/queue/q", "transaction", "t")
	m.in(0, line("BEGIN", "transaction", "t")+in+in)
	m.lost(0)
	is(t, "neither", m.said[1], "")
	m.opens(0)
	m.in(0, line("BEGIN", "transaction", "t")+in+in+line("COMMIT", "transaction", "t"))
	is(t, "both", strings.Count(m.said[1], "MESSAGE\n"), 2)
	// A queue of 64: the 65th publish has ERROR.
	m = openedRoom()
	m.in(1, line("SUBSCRIBE", "id", "a", "destination", "/queue/q", "ack", "client-individual"))
	for range 64 {
		m.in(0, line("SEND", "destination", "/queue/q", "receipt", "r"))
	}
	is(t, "64 receipts", m.said[0], strings.Repeat(line("RECEIPT", "receipt-id", "r"), 64))
	is(t, "given", len(m.fronts[1].Given), 32)
	m.said[0] = ""
	m.in(0, line("SEND", "destination", "/queue/q", "receipt", "r"))
	is(t, "the 65th", m.said[0], line("ERROR", "message", "refused 35"))
	is(t, "the end", m.ended[0], true)
	// The connection breaks: the next consumer is given all, in order, those that were given marked.
	m.in(1, line("ACK", "id", "3"))
	m.lost(1)
	m.opens(2)
	m.in(2, line("SUBSCRIBE", "id", "a", "destination", "/queue/q"))
	is(t, "all but one", strings.Count(m.said[2], "MESSAGE\n"), 63)
	for n := range 63 {
		f, size, err := sframe.Next(m.said[2])
		is(t, "a frame", err, ok)
		_, again := sframe.Get(f, "redelivered")
		is(t, fmt.Sprint("marked ", n), again, n < 32)
		m.said[2] = m.said[2][size:]
	}
	is(t, "nothing more", m.said[2], "")
}
