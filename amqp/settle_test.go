package amqp_test

import (
	"fmt"
	"math"
	"slices"
	"testing"

	"trivet/api"
)

// most: the greatest number that a tag can have.
const most = math.MaxInt

// settling: a state that isn't in a transaction, to which so many were given, by the numbers 1, 3, 5 and so on.
func settling(count int) api.Amqp {
	s := up()
	s.Num = 2 * count
	for n := range count {
		s.Given = append(s.Given, api.Given{Num: 2*n + 1, Sub: n % 3, Queue: []string{"q", "p"}[n%2], Tag: 100 - n})
	}
	return s
}

// op: the operation by which something that was given is settled.
func op(kind int, again bool, g api.Given) api.Op {
	return api.Op{Kind: kind, Conn: me, Queue: g.Queue, N: g.Tag, Auto: again}
}

// settled: what comes of it when those of a state that were given by these numbers are settled, outside of a transaction.
func settled(s api.Amqp, kind int, again bool, nums ...int) (api.Amqp, []api.Act) {
	var ops []api.Op
	want := remade(s)
	want.Given = nil
	for _, g := range s.Given {
		if slices.Contains(nums, g.Num) {
			ops = append(ops, op(kind, again, g))
		} else {
			want.Given = append(want.Given, g)
		}
	}
	var acts []api.Act
	for len(ops) > 0 {
		n := min(16, len(ops))
		acts = append(acts, do(0, "", ops[:n]...))
		ops = ops[n:]
	}
	return want, acts
}

// upTo: the numbers of what was given to a state, up to one.
func upTo(s api.Amqp, n int) []int {
	var nums []int
	for _, g := range s.Given {
		if g.Num <= n {
			nums = append(nums, g.Num)
		}
	}
	return nums
}

func TestP17_1_AckOfOne(t *testing.T) {
	for _, s := range []api.Amqp{up(), busy(), settling(1), settling(5), settling(40)} {
		there := upTo(s, most)
		for _, n := range []int{0, 1, 2, 3, 4, 5, 6, 7, 8, 9, 10, 11, 79, 80, 81, 1 << 32, 1<<32 + 1, most} {
			for _, bits := range []int{0, 2, 4, 128, 254} {
				in := on1("basic.ack", n, bits)
				what := fmt.Sprint(len(there), " given, ack of ", n, ", bits ", bits)
				if !slices.Contains(there, n) {
					shuts(t, what, s, in, 406)
					continue
				}
				want, acts := settled(s, opAck, false, n)
				leads(t, what, s, in, want, acts...)
				shuts(t, what+", twice", want, in, 406)
				shuts(t, what+", and refused", want, on1("basic.reject", n, 1), 406)
				shuts(t, what+", and refused", want, on1("basic.nack", n, 2), 406)
			}
		}
	}
}

func TestP17_1_AckOfAllUpToOne(t *testing.T) {
	for _, count := range []int{1, 2, 15, 16, 17, 31, 32, 33, 48, 64, 100} {
		s := settling(count)
		for n := 1; n <= 2*count+3; n++ {
			for _, bits := range []int{1, 3, 255} {
				in := on1("basic.ack", n, bits)
				what := fmt.Sprint(count, " given, ack of all up to ", n)
				want, acts := settled(s, opAck, false, upTo(s, n)...)
				leads(t, what, s, in, want, acts...)
				shuts(t, what+", twice", want, in, 406)
			}
		}
		want, acts := settled(s, opAck, false, upTo(s, most)...)
		leads(t, "of the greatest number", s, on1("basic.ack", most, 1), want, acts...)
	}
	// What stands behind it is given still.
	s := busy()
	for n, nums := range map[int][]int{2: {2}, 3: {2}, 4: {2}, 5: {2, 5}, 6: {2, 5, 6}, 8: {2, 5, 6}, 9: {2, 5, 6, 9}, 10: {2, 5, 6, 9}} {
		want, acts := settled(s, opAck, false, nums...)
		leads(t, fmt.Sprint("busy, all up to ", n), s, on1("basic.ack", n, 1), want, acts...)
	}
	shuts(t, "busy, all up to 1", s, on1("basic.ack", 1, 1), 406)
	for _, n := range []int{1, 2, most} {
		shuts(t, "nothing given", up(), on1("basic.ack", n, 1), 406)
	}
}

func TestP17_1_AckOfAll(t *testing.T) {
	for _, count := range []int{0, 1, 2, 15, 16, 17, 31, 32, 33, 64, 65} {
		s := settling(count)
		want, acts := settled(s, opAck, false, upTo(s, most)...)
		is(t, "in how many acts", len(acts), (count+15)/16)
		for _, bits := range []int{1, 3, 255} {
			leads(t, fmt.Sprint(count, " given, ack of all"), s, on1("basic.ack", 0, bits), want, acts...)
			leads(t, "ack of all, twice", want, on1("basic.ack", 0, bits), want)
		}
		shuts(t, fmt.Sprint(count, " given, ack of none"), s, on1("basic.ack", 0, 0), 406)
	}
	leads(t, "busy", busy(), on1("basic.ack", 0, 1), changed(busy(), func(s *api.Amqp) { s.Given = nil }), do(0, "",
		api.Op{Kind: opAck, Conn: me, Queue: "q", N: 20},
		api.Op{Kind: opAck, Conn: me, Queue: "p", N: 3},
		api.Op{Kind: opAck, Conn: me, Queue: "p", N: 4},
		api.Op{Kind: opAck, Conn: me, Queue: "q", N: 24}))
}

func TestP17_1_Reject(t *testing.T) {
	for _, s := range []api.Amqp{up(), busy(), settling(5), settling(40)} {
		there := upTo(s, most)
		for _, n := range []int{0, 1, 2, 3, 5, 6, 9, 79, 80, 1<<32 + 1, most} {
			for bits := range 256 {
				reject, nack := on1("basic.reject", n, bits), on1("basic.nack", n, bits)
				what := fmt.Sprint(len(there), " given, ", n, " with bits ", bits)
				if bits&1 == 1 {
					shuts(t, "nack: "+what, s, nack, 540)
				}
				if !slices.Contains(there, n) {
					shuts(t, "reject: "+what, s, reject, 406)
					if bits&1 == 0 {
						shuts(t, "nack: "+what, s, nack, 406)
					}
					continue
				}
				want, acts := settled(s, opNack, bits&1 == 1, n)
				leads(t, "reject: "+what, s, reject, want, acts...)
				shuts(t, "reject, twice: "+what, want, reject, 406)
				shuts(t, "reject, then ack: "+what, want, on1("basic.ack", n, 0), 406)
				if bits&1 == 0 {
					want, acts := settled(s, opNack, bits&2 == 2, n)
					leads(t, "nack: "+what, s, nack, want, acts...)
					shuts(t, "nack, twice: "+what, want, nack, 406)
				}
			}
		}
	}
}

// inTxWith: a transaction with so many operations, to which something was given by the numbers 1 to 20; those in marks are in it.
func inTxWith(count int, marks ...int) api.Amqp {
	s := up()
	s.Tx, s.Num = true, 20
	for n := range 20 {
		s.Given = append(s.Given, api.Given{Num: n + 1, Sub: n % 2, Queue: "q", Tag: 50 + n, Mark: slices.Contains(marks, n+1)})
	}
	for n := range count {
		s.Ops = append(s.Ops, publishOf("t", fmt.Sprint("body ", n)))
	}
	return s
}

// marked: what comes of it when those that were given by these numbers are settled in a transaction.
func marked(s api.Amqp, kind int, again bool, nums ...int) api.Amqp {
	s = remade(s)
	for at, g := range s.Given {
		if slices.Contains(nums, g.Num) {
			s.Given[at].Mark = true
			s.Ops = append(s.Ops, op(kind, again, g))
		}
	}
	return s
}

func TestP17_1_SettledInATransaction(t *testing.T) {
	s := inTxWith(3, 4, 5)
	leads(t, "ack of one", s, on1("basic.ack", 7, 0), marked(s, opAck, false, 7))
	leads(t, "ack of all up to 7", s, on1("basic.ack", 7, 1), marked(s, opAck, false, 1, 2, 3, 6, 7))
	leads(t, "ack of all up to a marked one", s, on1("basic.ack", 5, 1), marked(s, opAck, false, 1, 2, 3))
	leads(t, "reject", s, on1("basic.reject", 7, 0), marked(s, opNack, false, 7))
	leads(t, "reject, put back", s, on1("basic.reject", 7, 1), marked(s, opNack, true, 7))
	leads(t, "nack", s, on1("basic.nack", 7, 0), marked(s, opNack, false, 7))
	leads(t, "nack, put back", s, on1("basic.nack", 7, 2), marked(s, opNack, true, 7))
	shuts(t, "nack of many", s, on1("basic.nack", 7, 3), 540)
	// What is marked can't be settled again.
	for _, n := range []int{4, 5} {
		shuts(t, "ack of a marked one", s, on1("basic.ack", n, 0), 406)
		shuts(t, "reject of a marked one", s, on1("basic.reject", n, 1), 406)
		shuts(t, "nack of a marked one", s, on1("basic.nack", n, 2), 406)
	}
	for _, n := range []int{0, 21, most} {
		shuts(t, "ack of none", s, on1("basic.ack", n, 0), 406)
		shuts(t, "reject of none", s, on1("basic.reject", n, 1), 406)
		shuts(t, "nack of none", s, on1("basic.nack", n, 2), 406)
	}
	first := inTxWith(3, 1, 2, 3)
	shuts(t, "ack of all up to 3, all marked", first, on1("basic.ack", 3, 1), 406)
	leads(t, "ack of all up to 4, of which three are marked", first, on1("basic.ack", 4, 1), marked(first, opAck, false, 4))
	every := inTxWith(3, 1, 2, 3, 4, 5, 6, 7, 8, 9, 10, 11, 12, 13, 14, 15, 16, 17, 18, 19, 20)
	leads(t, "ack of all, all marked", every, on1("basic.ack", 0, 1), every)
	shuts(t, "ack of all up to 20, all marked", every, on1("basic.ack", 20, 1), 406)
	none := changed(inTxWith(0), func(s *api.Amqp) { s.Given = nil })
	leads(t, "ack of all, nothing given", none, on1("basic.ack", 0, 1), none)
}

func TestP17_1_MoreThanATransactionCanHave(t *testing.T) {
	for count := range 17 {
		s := inTxWith(count)
		room := 16 - count
		for n := 1; n <= 20; n++ {
			in := on1("basic.ack", n, 1)
			what := fmt.Sprint(count, " operations, and ", n, " more")
			if n > room {
				shuts(t, what, s, in, 506)
				continue
			}
			leads(t, what, s, in, marked(s, opAck, false, upTo(s, n)...))
		}
		shuts(t, fmt.Sprint(count, " operations, and 20 more"), s, on1("basic.ack", 0, 1), 506)
		for _, in := range []struct {
			bytes string
			kind  int
			again bool
		}{
			{on1("basic.ack", 9, 0), opAck, false},
			{on1("basic.reject", 9, 1), opNack, true},
			{on1("basic.nack", 9, 0), opNack, false},
		} {
			if room == 0 {
				shuts(t, "one more than 16", s, in.bytes, 506)
				continue
			}
			leads(t, fmt.Sprint(count, " operations, and one more"), s, in.bytes, marked(s, in.kind, in.again, 9))
		}
	}
	full := inTxWith(16, 3)
	// That there is nothing such comes ahead of that there is no room.
	shuts(t, "full, ack of a marked one", full, on1("basic.ack", 3, 0), 406)
	shuts(t, "full, ack of none", full, on1("basic.ack", 21, 0), 406)
	shuts(t, "full, nack of many", full, on1("basic.nack", 9, 1), 540)
	// Nothing more is nothing too many.
	none := changed(inTxWith(16), func(s *api.Amqp) { s.Given = nil })
	leads(t, "full, ack of all, nothing given", none, on1("basic.ack", 0, 1), none)
}

func TestP17_1_Commit(t *testing.T) {
	in := on1("tx.commit")
	for what, s := range map[string]api.Amqp{"1": up(), "busy": busy()} {
		shuts(t, what+": no transaction", s, in, 406)
	}
	for count := range 17 {
		s := inTxWith(count, 4, 5, 20)
		want := changed(s, func(s *api.Amqp) { s.Ops = nil })
		if count == 0 {
			// Without operations nothing is marked.
			s, want = inTxWith(0), inTxWith(0)
			leads(t, "without any", s, in, want, say(on1("tx.commit-ok")))
			continue
		}
		want.Given = slices.DeleteFunc(slices.Clone(s.Given), func(g api.Given) bool { return g.Mark })
		leads(t, fmt.Sprint("of ", count), s, in, want, do(refCommit, "", s.Ops...))
		leads(t, fmt.Sprint("of ", count, ", twice"), want, in, want, say(on1("tx.commit-ok")))
		shuts(t, "ack of what was settled", want, on1("basic.ack", 4, 0), 406)
	}
	s := inTx()
	leads(t, "in tx", s, in, changed(s, func(s *api.Amqp) {
		s.Ops, s.Given = nil, []api.Given{s.Given[0], s.Given[2], s.Given[3]}
	}), do(refCommit, "", s.Ops...))
	// All operations, in the order in which they were said.
	s = next(next(inTxWith(0), on1("basic.reject", 9, 1)).s, on1("basic.publish", 0, "", "q")).s
	s = next(next(next(s, frame(2, 1, head(2, allProps(), true))).s, frame(3, 1, "hi")).s, on1("basic.ack", 2, 1)).s
	pub := api.Op{Kind: opPublish, Queue: "q", Msg: api.Msg{Topic: "q", Body: "hi", Props: allProps(), Durable: true}}
	is(t, "in order", next(s, in).acts, []api.Act{do(refCommit, "",
		api.Op{Kind: opNack, Conn: me, Queue: "q", N: 58, Auto: true},
		pub,
		api.Op{Kind: opAck, Conn: me, Queue: "q", N: 50},
		api.Op{Kind: opAck, Conn: me, Queue: "q", N: 51})})
}

func TestP17_1_Rollback(t *testing.T) {
	in := on1("tx.rollback")
	for what, s := range map[string]api.Amqp{"1": up(), "busy": busy()} {
		shuts(t, what+": no transaction", s, in, 406)
	}
	for count := range 17 {
		s := inTxWith(count, 4, 5, 20)
		want := inTxWith(0)
		leads(t, fmt.Sprint("of ", count), s, in, want, say(on1("tx.rollback-ok")))
		leads(t, fmt.Sprint("of ", count, ", twice"), want, in, want, say(on1("tx.rollback-ok")))
		// What was marked can be settled again.
		leads(t, "ack of what was marked", want, on1("basic.ack", 4, 0), marked(want, opAck, false, 4))
		leads(t, "commit of nothing", want, on1("tx.commit"), want, say(on1("tx.commit-ok")))
	}
	leads(t, "in tx", inTx(), in, changed(inTx(), func(s *api.Amqp) {
		s.Ops, s.Given[1].Mark = nil, false
	}), say(on1("tx.rollback-ok")))
}
