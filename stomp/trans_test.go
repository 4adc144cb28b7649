package stomp_test

import (
	"fmt"
	"slices"
	"strconv"
	"strings"
	"testing"

	"trivet/api"
)

// settling: the two commands by which what was given is settled.
var settling = map[string]api.Op{"ACK": {Kind: opAck, Conn: me}, "NACK": {Kind: opNack, Conn: me, Auto: true}}

// settledBy: what is left of a state, and wanted, when what was given at a place is settled.
func settledBy(s api.Stomp, like api.Op, at int) (api.Stomp, api.Op) {
	like.Queue, like.N = s.Given[at].Queue, s.Given[at].Tag
	return changed(s, func(s *api.Stomp) { s.Given = slices.Delete(s.Given, at, at+1) }), like
}

func TestP19_1_AckAndNack(t *testing.T) {
	for what, s := range opened() {
		for command, like := range settling {
			for at, g := range s.Given {
				id := strconv.Itoa(g.Num)
				what := fmt.Sprint(what, ": ", command, " of ", id)
				want, o := settledBy(s, like, at)
				leads(t, what, s, line(command, "id", id), want, do("", o))
				leads(t, what+", with more", s, wire(command, "body", "receipt", "r", "id", id, "id", "x", "destination", "x", "ack", "x"), want, do("r", o))
				ends(t, what+", twice", want, line(command, "id", id), "id")
				ends(t, what+", twice", want, line("ACK", "id", id), "id")
				ends(t, what+", twice", want, line("NACK", "id", id), "id")
				for _, id := range []string{"0" + id, "00" + id, "+" + id, "-" + id, " " + id, id + " ", id + ".0", id + "x", "0x" + id, id + "\x00"} {
					ends(t, what+" as "+id, s, line(command, "id", id), "id")
					ends(t, what+" as "+id, s, line(command, "id", id, "transaction", "t0"), "id")
				}
			}
			for _, id := range []string{"0", "1", "3", "11", "13", "100", "-1", "x", "z", "18446744073709551618", "4294967298", "２", "ack", long(300)} {
				if slices.ContainsFunc(s.Given, func(g api.Given) bool { return strconv.Itoa(g.Num) == id }) {
					continue
				}
				ends(t, what+": "+command+" of "+id, s, line(command, "id", id), "id")
				ends(t, what+": "+command+" of "+id+", in none", s, line(command, "id", id, "transaction", "none of these"), "id")
			}
		}
	}
}

// In a transaction what settles is put behind its operations, and what was given is there no more at once.
func TestP19_3_SettledInATransaction(t *testing.T) {
	for command, like := range settling {
		for tx := range 3 {
			for at, g := range busy().Given {
				s := busy()
				name := s.Txs[tx].Name
				want, o := settledBy(s, like, at)
				want.Txs[tx].Ops = append(want.Txs[tx].Ops, o)
				for _, r := range []string{"", "r"} {
					in := line(command, "receipt", r, "transaction", name, "transaction", "x", "id", strconv.Itoa(g.Num))
					leads(t, fmt.Sprint(command, " in ", name), s, in, want, receipt(r)...)
					ends(t, fmt.Sprint(command, " in ", name, ", twice"), want, in, "id")
				}
				for command := range settling {
					ends(t, "twice, in no transaction", want, line(command, "id", strconv.Itoa(g.Num)), "id")
				}
			}
		}
	}
}

// Where its transaction ends the connection, what was given is there no more even so.
func TestP19_3_SettledInATransactionThatCannotTakeIt(t *testing.T) {
	full := changed(busy(), func(s *api.Stomp) { s.Txs[0].Ops = sends(16) })
	for command, like := range settling {
		for at, g := range busy().Given {
			for _, c := range []struct {
				s    api.Stomp
				name string
			}{{busy(), "none of these"}, {busy(), ""}, {busy(), "T"}, {busy(), "t "}, {full, "t"}} {
				in := line(command, "id", strconv.Itoa(g.Num), "transaction", c.name, "receipt", "r")
				want, _ := settledBy(c.s, like, at)
				leads(t, command+" in "+c.name, c.s, in, downed(want), failed("transaction")...)
			}
		}
		ends(t, command+" of what wasn't given, in a full one", full, line(command, "id", "3", "transaction", "t"), "id")
	}
}

// Nothing is wanted of what wasn't given, whatever is said.
func TestP19_3_NothingOfWhatWasNotGiven(t *testing.T) {
	for what, s := range opened() {
		for n := -2; n < 120; n++ {
			for command, like := range settling {
				got := next(s, line(command, "id", strconv.Itoa(n)))
				at := slices.IndexFunc(s.Given, func(g api.Given) bool { return g.Num == n })
				if at < 0 {
					is(t, what, got, step{downed(s), failed("id"), true})
					continue
				}
				want, o := settledBy(s, like, at)
				is(t, what, got, step{want, []api.Act{do("", o)}, true})
			}
		}
	}
}

func TestP19_1_Begin(t *testing.T) {
	for what, s := range map[string]api.Stomp{"up": up(), "busy": busy()} {
		for _, name := range []string{"new", "T", "t ", " ", "\x00", "a:b\r\n\\", long(255), long(256), strings.Repeat("\n", 256)} {
			want := changed(s, func(s *api.Stomp) { s.Txs = append(s.Txs, api.Trans{Name: name}) })
			for _, r := range []string{"", "r"} {
				in := line("BEGIN", "transaction", name, "receipt", r, "transaction", "t", "id", "x")
				leads(t, fmt.Sprintf("%s: BEGIN of %.30q", what, name), s, in, want, receipt(r)...)
				ends(t, what+": BEGIN, twice", want, in, "transaction")
			}
		}
		for _, name := range []string{"", long(257), long(5000), strings.Repeat(":", 257)} {
			ends(t, fmt.Sprintf("%s: BEGIN of %.30q", what, name), s, line("BEGIN", "transaction", name, "receipt", "r"), "transaction")
		}
		for _, x := range s.Txs {
			ends(t, what+": BEGIN of "+x.Name, s, line("BEGIN", "transaction", x.Name), "transaction")
		}
	}
}

// Four transactions and a fifth.
func TestP19_1_HowManyTransactions(t *testing.T) {
	s := up()
	for n := range 4 {
		name := fmt.Sprint("t", 9-n)
		want := changed(s, func(s *api.Stomp) { s.Txs = append(s.Txs, api.Trans{Name: name}) })
		leads(t, name, s, line("BEGIN", "transaction", name), want)
		s = want
	}
	ends(t, "a fifth one", s, line("BEGIN", "transaction", "new", "receipt", "r"), "transaction")
	for _, command := range []string{"COMMIT", "ABORT"} {
		gone := next(s, line(command, "transaction", "t8")).s
		is(t, command, gone, changed(s, func(s *api.Stomp) { s.Txs = []api.Trans{s.Txs[0], s.Txs[2], s.Txs[3]} }))
		for _, name := range []string{"t8", "new"} {
			leads(t, "one in its place", gone, line("BEGIN", "transaction", name), changed(gone, func(s *api.Stomp) { s.Txs = append(s.Txs, api.Trans{Name: name}) }))
		}
	}
}

// A transaction has up to 16 operations, of all kinds, in the order in which they were said.
func TestP19_1_HowManyOperations(t *testing.T) {
	s := changed(busy(), func(s *api.Stomp) {
		for n := range 20 {
			s.Given = append(s.Given, api.Given{Num: 20 + n, Sub: 2, Queue: "q", Tag: 40 + n})
		}
	})
	for n := range 16 {
		var o api.Op
		want := s
		in := line("SEND", "transaction", "none", "destination", "/topic/a", "p-n", fmt.Sprint("i", n))
		switch n % 3 {
		case 0:
			o = sendOf("", "a", "", false, []api.Prop{{Name: "n", Value: whole(n)}})
		case 1:
			in = line("ACK", "id", fmt.Sprint(20+n), "transaction", "none")
			want, o = settledBy(s, settling["ACK"], slices.IndexFunc(s.Given, func(g api.Given) bool { return g.Num == 20+n }))
		case 2:
			in = line("NACK", "id", fmt.Sprint(20+n), "transaction", "none")
			want, o = settledBy(s, settling["NACK"], slices.IndexFunc(s.Given, func(g api.Given) bool { return g.Num == 20+n }))
		}
		want = changed(want, func(s *api.Stomp) { s.Txs[1].Ops = append(s.Txs[1].Ops, o) })
		leads(t, fmt.Sprint("operation ", n+1), s, in, want)
		s = want
	}
	is(t, "how many", len(s.Txs[1].Ops), 16)
	ends(t, "one more", s, line("SEND", "transaction", "none", "destination", "/topic/a", "receipt", "r"), "transaction")
	leads(t, "one more, in another one", s, line("SEND", "transaction", "t", "destination", "/topic/a"), changed(s, func(s *api.Stomp) { s.Txs[0].Ops = append(s.Txs[0].Ops, sendOf("", "a", "", false, nil)) }))
	leads(t, "one more, in none", s, line("SEND", "destination", "/topic/a"), s, do("", sendOf("", "a", "", false, nil)))
	leads(t, "COMMIT", s, line("COMMIT", "transaction", "none", "receipt", "r"), changed(s, func(s *api.Stomp) { s.Txs = []api.Trans{s.Txs[0], s.Txs[2]} }), do("r", s.Txs[1].Ops...))
}

func TestP19_1_SendInATransaction(t *testing.T) {
	queue := place{"/queue/q", true, "q"}
	for tx, x := range busy().Txs {
		o := sent(queue, "body", true, allProps())
		want := changed(busy(), func(s *api.Stomp) { s.Txs[tx].Ops = append(s.Txs[tx].Ops, o) })
		for _, r := range []string{"", "r"} {
			leads(t, "SEND in "+x.Name, busy(), wire("SEND", "body", with(allPairs(), "receipt", r, "persistent", "true", "destination", "/queue/q", "transaction", x.Name, "transaction", "x")...), want, receipt(r)...)
		}
	}
	for what, s := range opened() {
		for _, name := range []string{"", "none of these", "T", "t ", "tt", long(256), long(257), "\x00"} {
			ends(t, what+": SEND in "+name, s, line("SEND", "destination", "/queue/q", "transaction", name, "receipt", "r"), "transaction")
		}
	}
	for count := range 17 {
		s := changed(up(), func(s *api.Stomp) { s.Txs = []api.Trans{{Name: "t", Ops: sends(count)}} })
		in := line("SEND", "destination", "/queue/q", "transaction", "t")
		if count == 16 {
			ends(t, "a full one", s, in, "transaction")
			continue
		}
		leads(t, fmt.Sprint("behind ", count), s, in, changed(s, func(s *api.Stomp) { s.Txs[0].Ops = append(s.Txs[0].Ops, sent(queue, "", false, nil)) }))
	}
}

func TestP19_1_CommitAndAbort(t *testing.T) {
	for what, s := range opened() {
		for at, x := range s.Txs {
			want := changed(s, func(s *api.Stomp) { s.Txs = slices.Delete(s.Txs, at, at+1) })
			for _, r := range []string{"", "r"} {
				pairs := []string{"transaction", x.Name, "receipt", r, "transaction", "other", "id", "x"}
				commit := receipt(r)
				if len(x.Ops) > 0 {
					commit = []api.Act{do(r, x.Ops...)}
				}
				leads(t, what+": COMMIT of "+x.Name, s, line("COMMIT", pairs...), want, commit...)
				leads(t, what+": ABORT of "+x.Name, s, line("ABORT", pairs...), want, receipt(r)...)
				for _, command := range []string{"COMMIT", "ABORT"} {
					ends(t, what+": "+command+" of what is there no more", want, line(command, pairs...), "transaction")
				}
			}
		}
		for _, command := range []string{"COMMIT", "ABORT"} {
			for _, name := range []string{"", "none of these", "T", "t ", " t", "tt", "\x00", long(256), long(257)} {
				ends(t, what+": "+command+" of "+name, s, line(command, "transaction", name, "receipt", "r"), "transaction")
			}
		}
	}
	for count := 1; count <= 16; count++ {
		s := changed(up(), func(s *api.Stomp) { s.Txs = []api.Trans{{Name: "t", Ops: sends(count)}} })
		leads(t, fmt.Sprint("COMMIT of ", count), s, line("COMMIT", "transaction", "t"), up(), do("", sends(count)...))
		leads(t, fmt.Sprint("ABORT of ", count), s, line("ABORT", "transaction", "t"), up())
	}
}

// What an aborted transaction had settled is not given any more.
func TestP19_3_Aborted(t *testing.T) {
	s := next(busy(), line("ACK", "id", "5", "transaction", "t")).s
	s = next(s, line("ABORT", "transaction", "t")).s
	want := busy()
	want.Given = slices.Delete(want.Given, 1, 2)
	want.Txs = want.Txs[1:]
	is(t, "behind ABORT", s, want)
	ends(t, "ACK once more", s, line("ACK", "id", "5"), "id")
}
