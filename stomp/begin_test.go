package stomp_test

import (
	"fmt"
	"strings"
	"testing"

	"trivet/api"
	"trivet/stomp"
)

// connected: what is said to who connects.
const connected = "CONNECTED\nversion:1.2\nheart-beat:0,0\n\n\x00"

// kind is a frame that is heard: a command and its headers.
type kind struct {
	command string
	pairs   []string
}

// kinds: one frame of each command that is heard while a connection is up; of busy none ends it but by its own rules.
func kinds() []kind {
	return []kind{
		{"SEND", []string{"destination", "/queue/q"}},
		{"SUBSCRIBE", []string{"id", "new", "destination", "/topic/a.*"}},
		{"UNSUBSCRIBE", []string{"id", "z"}},
		{"ACK", []string{"id", "5"}},
		{"NACK", []string{"id", "6"}},
		{"BEGIN", []string{"transaction", "new"}},
		{"COMMIT", []string{"transaction", "t"}},
		{"ABORT", []string{"transaction", "t"}},
		{"DISCONNECT", nil},
	}
}

// strangers: commands that the chapter doesn't name, of clients and of servers.
var strangers = []string{"CONNECTED", "MESSAGE", "RECEIPT", "ERROR", "GET", "A", "Z", "SENDS", "SEN", "CONNEC", "CONNECTS", "STOMPS", "BEGI", "UNSUBSCRIB", "ABCDEFGHIJKLMNOP"}

func TestP19_1_New(t *testing.T) {
	is(t, "New", stomp.New(), api.Stomp{})
}

func TestP19_1_Connect(t *testing.T) {
	for _, command := range []string{"CONNECT", "STOMP"} {
		for _, versions := range []string{"1.2", "1.0,1.1,1.2", "1.2,1.1", "1.1,1.2,1.3", ",1.2", "1.2,", "1.2,1.2", "x,,1.2,,", "1.1,1.2, 1.3"} {
			leads(t, command+" "+versions, fresh(), line(command, "accept-version", versions), up(), say(connected))
			leads(t, command+" with more", fresh(), line(command, "host", "h", "accept-version", versions, "login", "me", "heart-beat", "10,10", "accept-version", "9"), up(), say(connected))
		}
		for _, versions := range []string{"", "1.1", "1.0,1.1", "1.20", "11.2", "1.2.", "1", "2", "1,2", "1.1 1.2", " 1.2", "1.2 ", "1.1, 1.2", "1.1;1.2", "1.3,1.2x", "12", "1_2", "1.2\\", ","} {
			ends(t, command+" "+versions, fresh(), line(command, "accept-version", versions), "version")
		}
		ends(t, command+" without it", fresh(), line(command), "version")
		ends(t, command+", only the first header counts", fresh(), line(command, "accept-version", "1.1", "accept-version", "1.2"), "version")
		ends(t, command+" with another header", fresh(), line(command, "version", "1.2", "Accept-version", "1.2"), "version")
		leads(t, command+" with a body", fresh(), wire(command, "body", "accept-version", "1.2"), up(), say(connected))
	}
	// Names and texts of CONNECT stand as they are, those of STOMP don't.
	leads(t, "CONNECT", fresh(), "CONNECT\nx:a\\b\naccept-version:1.2\n\n\x00", up(), say(connected))
	ends(t, "STOMP", fresh(), "STOMP\nx:a\\b\naccept-version:1.2\n\n\x00", "frame")
	leads(t, "STOMP", fresh(), "STOMP\r\nx:a\\cb\r\naccept-version:1.2\r\n\r\n\x00", up(), say(connected))
}

// What is against the order of things is told by the command, ahead of all else.
func TestP19_1_TheWrongTime(t *testing.T) {
	for what, s := range opened() {
		for _, command := range []string{"CONNECT", "STOMP"} {
			for _, pairs := range [][]string{nil, {"accept-version", "1.2"}, {"accept-version", "1.1"}, {"receipt", "r"}, {"receipt", long(257)}} {
				ends(t, what, s, line(command, pairs...), command)
			}
		}
	}
	for _, k := range kinds() {
		for _, pairs := range [][]string{nil, k.pairs, with(k.pairs, "receipt", "r"), with(k.pairs, "receipt", long(257)), with(k.pairs, "transaction", "t")} {
			ends(t, "not up", fresh(), line(k.command, pairs...), k.command)
		}
	}
	for _, command := range strangers {
		for _, pairs := range [][]string{nil, {"accept-version", "1.2"}, {"receipt", "r"}, {"receipt", long(257)}} {
			ends(t, "not up", fresh(), line(command, pairs...), command)
		}
	}
}

func TestP19_1_CommandsThatTheChapterDoesNotName(t *testing.T) {
	for what, s := range opened() {
		for _, command := range strangers {
			for _, pairs := range [][]string{nil, {"receipt", "r"}, {"receipt", long(256)}, {"id", "z", "destination", "/queue/q", "transaction", "t"}} {
				ends(t, what, s, line(command, pairs...), command)
			}
			ends(t, what, s, line(command, "receipt", long(257)), "receipt")
		}
	}
}

// Each header that must be there, of each command.
func TestP19_1_HeadersThatMustBeThere(t *testing.T) {
	must := map[string][]string{"SEND": {"destination"}, "SUBSCRIBE": {"id", "destination"}, "UNSUBSCRIBE": {"id"}, "ACK": {"id"}, "NACK": {"id"}, "BEGIN": {"transaction"}, "COMMIT": {"transaction"}, "ABORT": {"transaction"}}
	s := busy()
	for _, k := range kinds() {
		for _, name := range must[k.command] {
			rest := without(k.pairs, name)
			ends(t, k.command+" without", s, line(k.command, rest...), name)
			ends(t, k.command+", empty", s, line(k.command, with(rest, name, "")...), name)
			ends(t, k.command+", empty, and there once more", s, line(k.command, with([]string{name, ""}, k.pairs...)...), name)
			ends(t, k.command+", another one", s, line(k.command, with(rest, strings.ToUpper(name), "z", name+"s", "z", " "+name, "z")...), name)
			if acts := next(s, line(k.command, k.pairs...)).acts; len(acts) > 1 && acts[1].Kind == isEnd {
				t.Errorf("%s ends the connection: %+v", k.command, acts)
			}
			if acts := next(s, line(k.command, with(k.pairs, name, "")...)).acts; len(acts) > 1 && acts[1].Kind == isEnd {
				t.Errorf("%s, there, and once more empty, ends the connection: %+v", k.command, acts)
			}
		}
	}
}

// A receipt, of each length, with each command: what is wanted is the same but for it.
func TestP19_1_Receipts(t *testing.T) {
	s := busy()
	for _, k := range kinds() {
		plain := next(s, line(k.command, k.pairs...))
		for _, r := range []string{"", "r", "a:b\\\r\n\x00", long(255), long(256), strings.Repeat(":", 256)} {
			want := plain
			want.acts = nil
			for _, a := range plain.acts {
				if a.Kind == isDo {
					a.Text = r
				}
				want.acts = append(want.acts, a)
			}
			if len(plain.acts) == 0 || plain.acts[0].Kind != isDo {
				want.acts = append(receipt(r), want.acts...)
			}
			is(t, fmt.Sprintf("%s, %.20q", k.command, r), next(s, line(k.command, with(k.pairs, "receipt", r)...)), want)
			is(t, fmt.Sprintf("%s, %.20q first", k.command, r), next(s, line(k.command, with([]string{"receipt", r, "receipt", "s"}, k.pairs...)...)), want)
		}
		for _, r := range []string{long(257), long(1000), strings.Repeat("\n", 257)} {
			ends(t, k.command, s, line(k.command, with(k.pairs, "receipt", r)...), "receipt")
			ends(t, k.command+" without headers", s, line(k.command, "receipt", r), "receipt")
			is(t, k.command+", only the first counts", next(s, line(k.command, with(k.pairs, "receipt", "", "receipt", r)...)), plain)
		}
	}
	for _, command := range []string{"CONNECT", "STOMP"} {
		for _, r := range []string{"", "r", long(256)} {
			leads(t, command, fresh(), line(command, "accept-version", "1.2", "receipt", r), up(), say(connected))
			ends(t, command, fresh(), line(command, "receipt", r), "version")
		}
		ends(t, command, fresh(), line(command, "accept-version", "1.2", "receipt", long(257)), "receipt")
		ends(t, command, fresh(), line(command, "accept-version", "1.1", "receipt", long(257)), "receipt")
	}
}

// Bytes that are no frame.
func TestP19_1_NoFrames(t *testing.T) {
	states := opened()
	states["fresh"] = fresh()
	for what, s := range states {
		for name, in := range map[string]string{
			"no command":              ":\n\n\x00",
			"small letters":           "send\n\n\x00",
			"another protocol":        "GET / HTTP/1.1\r\n\r\n",
			"a blank":                 "SEND \ndestination:/queue/q\n\n\x00",
			"no header":               "SEND\ndestination\n\n\x00",
			"a header without name":   "SEND\n:x\n\n\x00",
			"a backslash":             "SEND\ndestination:/queue/q\\t\n\n\x00",
			"no such length":          "SEND\ncontent-length:x\n\n\x00",
			"too long a body":         "SEND\ncontent-length:1025\n\n\x00",
			"no 00 behind the body":   "SEND\ncontent-length:1\n\nxx\x00",
			"headers too many":        line("SEND", strings.Split(strings.Repeat("a,b,", 33)[:33*4-1], ",")...),
			"a long command":          "ABCDEFGHIJKLMNOPQ\n\n\x00",
			"without an end":          strings.Repeat("x", 16384),
			"a body without an end":   "SEND\n\n" + long(1025),
			"behind ends of lines":    "\n\r\n\n:\n\n\x00",
			"nothing but a 00":        "\x00\n\n",
			"a receipt plays no part": "SEND\nreceipt:r\nx\n\n\x00",
		} {
			ends(t, what+": "+name, s, in, "frame")
		}
	}
}

// Ends of lines ahead of a frame are passed over, also if it isn't all there.
func TestP19_1_EndsOfLines(t *testing.T) {
	states := opened()
	states["fresh"] = fresh()
	whole := line("BEGIN", "transaction", "new")
	for what, s := range states {
		for _, blanks := range []string{"", "\n", "\r\n", "\n\n\r\n\n", strings.Repeat("\r\n", 20000)} {
			waits(t, what+": ends of lines alone", s, blanks, "")
			waits(t, what+": and a byte 0d", s, blanks+"\r", "\r")
			for at := 1; at < len(whole); at++ {
				waits(t, what+": and a piece of a frame", s, blanks+whole[:at], whole[:at])
			}
			if s.Up && len(s.Txs) < 4 {
				want := changed(s, func(s *api.Stomp) { s.Txs = append(s.Txs, api.Trans{Name: "new"}) })
				leads(t, what+": and a frame", s, blanks+whole, want)
			}
		}
	}
	// What waits already is of one piece with what comes in.
	s := fresh()
	s.Rest = "\r"
	waits(t, "a cut end of a line", s, "\n", "")
	waits(t, "a cut end of a line", s, "\n\r", "\r")
	is(t, "a byte 0d alone", next(s, "CONNECT\naccept-version:1.2\n\n\x00"), step{downed(s), failed("frame"), true})
}

// Behind the end nothing is heard.
func TestP19_1_NothingIsHeardBehindTheEnd(t *testing.T) {
	states := opened()
	states["fresh"] = fresh()
	for what, s := range states {
		s = downed(s)
		for _, k := range append(kinds(), kind{"CONNECT", []string{"accept-version", "1.2"}}, kind{"STOMP", []string{"accept-version", "1.2"}}, kind{"FOO", nil}) {
			is(t, what+": "+k.command, next(s, line(k.command, with(k.pairs, "receipt", "r")...)), step{s: s})
		}
		for _, in := range []string{"", "\n", "SEN", "no frame\n\n\x00", long(20000)} {
			is(t, what, next(s, in), step{s: s})
		}
	}
}

func TestP19_1_Disconnect(t *testing.T) {
	for what, s := range opened() {
		for _, r := range []string{"", "r", long(256)} {
			acts := append(receipt(r), end())
			leads(t, what, s, line("DISCONNECT", "receipt", r), downed(s), acts...)
			leads(t, what+", with more", s, wire("DISCONNECT", "body", "id", "z", "receipt", r, "transaction", "none of these"), downed(s), acts...)
		}
		leads(t, what+", without", s, line("DISCONNECT"), downed(s), end())
		gone := next(s, line("DISCONNECT", "receipt", "r")+line("SEND", "destination", "/queue/q")).s
		is(t, what+": what stands behind", next(gone, line("SEND", "destination", "/queue/q")), step{s: downed(s)})
	}
}

// The connection's number is in all that is wanted for it, and in nothing else.
func TestP19_1_EachConnection(t *testing.T) {
	for conn := range 8 {
		what := fmt.Sprint("connection ", conn)
		own := fmt.Sprint("s", conn, "-10")
		s := busy()
		s.Subs = append(s.Subs, api.Named{Name: "own", Sub: 7, Queue: fmt.Sprint("s", conn, "-7")})
		hear := func(command string, pairs ...string) []api.Act {
			s := s
			s.Rest = line(command, pairs...)
			_, acts, _ := stomp.Next(s, conn)
			return acts
		}
		is(t, what, hear("SEND", "destination", "/queue/q"), []api.Act{do("", sendOf("q", "q", "", false, nil))})
		is(t, what, hear("SUBSCRIBE", "id", "new", "destination", "/queue/q"), []api.Act{do("", api.Op{Kind: opDeclare, Queue: "q", Durable: true, N: 64}, api.Op{Kind: opSubscribe, Conn: conn, Sub: 10, Queue: "q", N: 32, Auto: true})})
		is(t, what, hear("SUBSCRIBE", "id", "new", "destination", "/topic/#"), []api.Act{do("", api.Op{Kind: opDeclare, Queue: own, N: 64}, api.Op{Kind: opBind, Queue: own, Text: "#"}, api.Op{Kind: opSubscribe, Conn: conn, Sub: 10, Queue: own, N: 32, Auto: true})})
		is(t, what, hear("UNSUBSCRIBE", "id", "z"), []api.Act{do("", api.Op{Kind: opUnsubscribe, Conn: conn, Sub: 2})})
		is(t, what, hear("UNSUBSCRIBE", "id", "own"), []api.Act{do("", api.Op{Kind: opUnsubscribe, Conn: conn, Sub: 7}, api.Op{Kind: opDelete, Queue: fmt.Sprint("s", conn, "-7")})})
		is(t, what, hear("ACK", "id", "5"), []api.Act{do("", api.Op{Kind: opAck, Conn: conn, Queue: "s3-6", N: 3})})
		is(t, what, hear("NACK", "id", "5"), []api.Act{do("", api.Op{Kind: opNack, Conn: conn, Queue: "s3-6", N: 3, Auto: true})})
		want := []api.Op{{Kind: opDetach, Conn: conn}}
		if conn == 3 {
			want = append(want, api.Op{Kind: opDelete, Queue: "s3-5"}, api.Op{Kind: opDelete, Queue: "s3-6"})
		}
		is(t, what, stomp.Lost(s, conn), append(want, api.Op{Kind: opDelete, Queue: fmt.Sprint("s", conn, "-7")}))
	}
}

// The chapter's examples.
func TestP19_1_Examples(t *testing.T) {
	s := next(stomp.New(), line("CONNECT", "accept-version", "1.1,1.2"))
	is(t, "CONNECT", s, step{up(), []api.Act{say(connected)}, true})
	is(t, "SEND first", next(stomp.New(), line("SEND", "destination", "/queue/q")), step{downed(fresh()), []api.Act{say("ERROR\nmessage:SEND\n\n\x00"), end()}, true})
	own := "s3-1"
	is(t, "SUBSCRIBE", next(s.s, line("SUBSCRIBE", "id", "0", "destination", "/topic/a.*")), step{
		api.Stomp{Up: true, Count: 1, Subs: []api.Named{{Name: "0", Sub: 1, Queue: own, Auto: true}}},
		[]api.Act{do("", api.Op{Kind: opDeclare, Queue: own, N: 64}, api.Op{Kind: opBind, Queue: own, Text: "a.*"}, api.Op{Kind: opSubscribe, Conn: 3, Sub: 1, Queue: own, N: 32, Auto: true})},
		true,
	})
}
