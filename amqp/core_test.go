package amqp_test

import (
	"fmt"
	"math/rand"
	"slices"
	"testing"

	"trivet/amqp"
	"trivet/api"
	"trivet/tx"
)

// room is connections that speak to one core, as the broker lets them, without a drum.
type room struct {
	core   api.Core
	fronts [3]api.Amqp
	said   [3]string
	// Of what was handed out held: how often it was settled, by its queue and tag there.
	settled map[string]int
}

// openedRoom: a room in which all connections have their channel.
func openedRoom() *room {
	m := &room{settled: make(map[string]int)}
	for conn := range m.fronts {
		m.fronts[conn] = amqp.New()
		m.in(conn, handshake)
	}
	return m
}

// in: bytes come in on a connection, and all that is wanted is done.
func (m *room) in(conn int, bytes string) {
	m.fronts[conn].Rest += bytes
	for {
		after, acts, heard := amqp.Next(m.fronts[conn], conn)
		m.fronts[conn] = after
		m.acts(conn, acts)
		if !heard {
			return
		}
	}
}

// acts: what a front wants is done.
func (m *room) acts(conn int, acts []api.Act) {
	for _, a := range acts {
		m.said[conn] += a.Bytes
		if a.Kind != isDo {
			continue
		}
		after, out, _, err := tx.Run(m.core, a.Ops)
		if err == ok {
			m.core = after
			for _, o := range a.Ops {
				if o.Kind == opAck || o.Kind == opNack {
					m.settled[fmt.Sprint(o.Queue, " ", o.N)]++
				}
			}
		}
		s, more := amqp.Told(m.fronts[conn], conn, a, err)
		m.fronts[conn] = s
		m.acts(conn, more)
		for _, o := range out {
			s, b := amqp.Give(m.fronts[o.Conn], o)
			m.fronts[o.Conn] = s
			m.said[o.Conn] += string(b)
		}
	}
}

// agrees: that what each connection was given and hasn't settled is just what the core holds for it.
func (m *room) agrees(t *testing.T, what string) bool {
	t.Helper()
	var held, given []string
	for _, q := range m.core.Queues {
		for _, h := range q.Held {
			held = append(held, fmt.Sprint(h.Conn, " ", h.Sub, " ", q.Name, " ", h.Tag))
		}
	}
	for conn, s := range m.fronts {
		for _, g := range s.Given {
			given = append(given, fmt.Sprint(conn, " ", g.Sub, " ", g.Queue, " ", g.Tag))
		}
	}
	slices.Sort(held)
	slices.Sort(given)
	return is(t, what+": what is given", given, held)
}

// once: that nothing was settled twice.
func (m *room) once(t *testing.T, what string) {
	t.Helper()
	for key, n := range m.settled {
		if n != 1 {
			t.Errorf("%s: %s was settled %d times", what, key, n)
		}
	}
}

// someWish: what a client may say, whose queues go with no connection.
func someWish(r *rand.Rand, s api.Amqp) string {
	if s.Stage == stUp && !s.Channel {
		return on1("channel.open")
	}
	name := one(r, "q", "p")
	switch r.Intn(16) {
	case 0, 1:
		return on1("basic.consume", 0, name, "", one(r, 0, 0, 0, 2))
	case 2, 3:
		return on1("basic.get", 0, name, r.Intn(2))
	case 4, 5, 6, 7, 8:
		return on1("basic.publish", 0, one(r, "", "amq.topic"), name) + content(1, "x")
	case 9, 10:
		return on1("basic.ack", someNum(r, s), one(r, 0, 0, 1))
	case 11:
		return on1("basic.reject", someNum(r, s), r.Intn(2))
	case 12:
		return on1("basic.nack", someNum(r, s), one(r, 0, 2))
	case 13:
		return on1("tx.select")
	case 14:
		if s.Tx {
			return one(r, on1("tx.commit"), on1("tx.rollback"))
		}
		return on1("basic.qos", 0, r.Intn(34))
	}
	return one(r, frame(8, 0, ""), frame(8, 0, ""), frame(8, 0, ""), on1("channel.close"))
}

// Over a core all that is wanted of what was given is there, and is settled once.
func TestP17_3_OverACore(t *testing.T) {
	t.Parallel()
	settled, marked, emptied := 0, 0, 0
	for seed := range 300 {
		r := rand.New(rand.NewSource(int64(seed)))
		m := openedRoom()
		for _, name := range []string{"q", "p"} {
			m.in(0, on1("queue.declare", 0, name)+on1("queue.bind", 0, name, "amq.topic", "#"))
		}
		for at := range 150 {
			what := fmt.Sprint("row ", seed, ", ", at)
			conn := r.Intn(3)
			m.in(conn, someWish(r, m.fronts[conn]))
			if !m.agrees(t, what) {
				return
			}
			if slices.ContainsFunc(m.fronts[conn].Given, func(g api.Given) bool { return g.Mark }) {
				marked++
			}
		}
		m.once(t, fmt.Sprint("row ", seed))
		settled += len(m.settled)
		for conn, s := range m.fronts {
			if s.Channel {
				m.in(conn, on1("channel.close"))
			}
			m.in(conn, on1("channel.open"))
		}
		m.agrees(t, "behind the closes")
		emptied += m.empties(t, fmt.Sprint("row ", seed))
	}
	if settled < 3000 || marked < 1000 || emptied < 1000 {
		t.Errorf("settled %d, marked %d, emptied %d", settled, marked, emptied)
	}
}

// empties: that who acknowledges all that it is given empties the queues; how many messages waited there.
func (m *room) empties(t *testing.T, what string) int {
	t.Helper()
	waiting := 0
	for _, q := range m.core.Queues {
		waiting += len(q.Items) + len(q.Held)
	}
	m.in(1, on1("basic.consume", 0, "q")+on1("basic.consume", 0, "p"))
	for range 64 {
		m.in(1, on1("basic.ack", 0, 1))
	}
	for _, q := range m.core.Queues {
		is(t, what+": what is left in "+q.Name, len(q.Items)+len(q.Held), 0)
	}
	m.agrees(t, what)
	return waiting
}

// What wasn't given is wanted by no method that settles, whatever it says.
func TestP17_3_NothingOfWhatWasNotGiven(t *testing.T) {
	for _, s := range []api.Amqp{up(), busy(), inTx(), settling(40), inTxWith(3, 5, 6)} {
		open := make(map[string]bool)
		for _, g := range s.Given {
			open[fmt.Sprint(g.Queue, " ", g.Tag)] = !g.Mark
		}
		for _, name := range []string{"basic.ack", "basic.reject", "basic.nack"} {
			for n := range 90 {
				for bits := range 4 {
					got := next(s, on1(name, n, bits))
					ops := got.s.Ops[min(len(s.Ops), len(got.s.Ops)):]
					for _, a := range got.acts {
						ops = append(ops, a.Ops...)
					}
					seen := make(map[string]bool)
					for _, o := range ops {
						key := fmt.Sprint(o.Queue, " ", o.N)
						if o.Kind != opDetach && (!open[key] || seen[key]) {
							t.Errorf("%s of %d, %d: wants %+v", name, n, bits, o)
						}
						seen[key] = true
					}
				}
			}
		}
	}
}

// The chapter's examples.
func TestP17_1_Examples(t *testing.T) {
	leads(t, "the eight bytes", fresh(), greeting, staged(stStart), say(started))
	is(t, "GET /", next(amqp.New(), "GET /"), step{downed(fresh()), []api.Act{say(greeting), end()}, true})
	shuts(t, "an ack of 5", up(), on1("basic.ack", 5, 0), 406)
}

// The document's examples, as far as they are of this layer: an ack twice, and a queue that is full.
func TestP17_1_ExamplesOfTheWhole(t *testing.T) {
	m := openedRoom()
	m.in(0, on1("queue.declare", 0, "q")+on1("confirm.select"))
	m.in(1, on1("basic.consume", 0, "q", "t"))
	for n := range 64 {
		m.said[0] = ""
		m.in(0, on1("basic.publish", 0, "", "q")+content(1, "x"))
		is(t, "acknowledged", m.said[0], on1("basic.ack", n+1, 0))
	}
	m.said[0] = ""
	m.in(0, on1("basic.publish", 0, "", "q")+content(1, "x"))
	is(t, "the one too many", m.said[0], on1("basic.nack", 65, 0))
	is(t, "given", len(m.fronts[1].Given), 32)
	m.in(1, on1("basic.ack", 7, 0))
	is(t, "given", len(m.fronts[1].Given), 32)
	m.said[1] = ""
	m.in(1, on1("basic.ack", 7, 0))
	is(t, "once more", m.said[1], on1("channel.close", 406))
	is(t, "all are put back", len(m.core.Queues[0].Items), 63)
	m.in(2, on1("basic.get", 0, "q", 1))
	is(t, "marked", m.said[2][len(m.said[2])-len(on1("basic.get-ok", 1, 1, "amq.topic", "q", 0)+content(1, "x")):], on1("basic.get-ok", 1, 1, "amq.topic", "q", 0)+content(1, "x"))
}
