package stomp_test

import (
	"fmt"
	"math/rand"
	"strings"
	"testing"

	"trivet/api"
	"trivet/stomp"
)

// talked is what came of bytes that came in by pieces: where the connection is, and all that was wanted and said.
type talked struct {
	s    api.Stomp
	acts []api.Act
}

// talk: each piece is put behind what waits, and all that is there is heard; of the acts that are to be done each thirtieth one is refused, and behind the others something is given.
func talk(pieces ...string) talked {
	w := talked{s: stomp.New()}
	count := 0
	for _, piece := range pieces {
		w.s.Rest += piece
		for {
			after, acts, heard := stomp.Next(w.s, me)
			w.s, w.acts = after, append(w.acts, acts...)
			if !heard {
				break
			}
			for _, a := range acts {
				if a.Kind != isDo {
					continue
				}
				e := ok
				if count++; count%30 == 0 {
					e = errnos[1+count/30%(len(errnos)-1)]
				}
				var more []api.Act
				w.s, more = stomp.Told(w.s, me, a, e)
				w.acts = append(w.acts, more...)
				s, b := stomp.Give(w.s, api.Out{Conn: me, Sub: 1 + count%4, Tag: count % 5, Queue: "q", Msg: api.Msg{Topic: "q"}})
				w.s, w.acts = s, append(w.acts, say(string(b)))
			}
		}
	}
	return w
}

// bytesOf: a text's bytes, one by one.
func bytesOf(s string) []string {
	var all []string
	for at := range len(s) {
		all = append(all, s[at:at+1])
	}
	return all
}

// handshake: what a client says ahead of all else.
var handshake = line("CONNECT", "accept-version", "1.2")

// work: some of all that a client says.
var work = line("SUBSCRIBE", "id", "a", "destination", "/queue/q", "ack", "client-individual", "receipt", "r1") + "\n" +
	line("SUBSCRIBE", "id", "b:b", "destination", "/topic/a.*") +
	wire("SEND", "hi\x00", "destination", "/topic/a.b", "p-x", "f-0", "content-length", "3") + "\r\n\n" +
	line("SEND", "destination", "/queue/q") +
	line("BEGIN", "transaction", "t", "receipt", "r2") +
	wire("SEND", "x", "destination", "/queue/q", "transaction", "t") +
	line("ACK", "id", "1", "transaction", "t") +
	line("COMMIT", "transaction", "t", "receipt", "r\\3") +
	line("UNSUBSCRIBE", "id", "a")

// sessions: whole connections, and such that break the rules.
func sessions() map[string]string {
	return map[string]string{
		"nothing":               "",
		"ends of lines":         "\n\r\n\n\r\n",
		"another protocol":      "GET / HTTP/1.1\r\n\r\n",
		"a handshake":           handshake,
		"STOMP":                 "\n" + line("STOMP", "accept-version", "1.1,1.2") + "\n",
		"another version":       line("CONNECT", "accept-version", "1.1") + work,
		"work":                  handshake + work + line("DISCONNECT", "receipt", "bye") + "not heard any more",
		"work, lines with 0d":   "CONNECT\r\naccept-version:1.2\r\n\r\n\x00\r\nSEND\r\ndestination:/queue/q\r\n\r\nbody\r\n\x00\r\n" + work,
		"twice connected":       handshake + handshake + work,
		"nobody connected":      work,
		"a body too long":       handshake + "SEND\ndestination:/queue/q\ncontent-length:1\n\nxx\x00" + work,
		"not the length":        handshake + "SEND\ncontent-length:01\n\nx\x00" + work,
		"half a frame":          handshake + work + line("SEND", "destination", "/queue/q")[:12],
		"a byte 0d":             handshake + "\r\n\r" + work,
		"an ack of none":        handshake + line("ACK", "id", "1") + work,
		"a command of none":     handshake + "FOO\n\n\x00" + work,
		"a lost transaction":    handshake + work + line("COMMIT", "transaction", "t"),
		"a backslash":           handshake + "SEND\ndestination:\\q\n\n\x00" + work,
		"a receipt of 257":      handshake + line("BEGIN", "transaction", "t", "receipt", long(257)) + work,
		"two bytes 00 in a row": handshake + "SEND\ndestination:/queue/q\n\n\x00\x00" + work,
	}
}

func TestP19_2_CutAtEveryPlace(t *testing.T) {
	t.Parallel()
	for what, whole := range sessions() {
		want := talk(whole)
		is(t, what+", byte by byte", talk(bytesOf(whole)...), want)
		for a := range len(whole) + 1 {
			if !is(t, fmt.Sprint(what, ", cut at ", a), talk(whole[:a], whole[a:]), want) {
				return
			}
		}
	}
}

func TestP19_2_CutAtEveryTwoPlaces(t *testing.T) {
	t.Parallel()
	whole := "\r\n" + handshake + "\n" + wire("SEND", "x", "destination", "/queue/q", "receipt", "r") + line("BEGIN", "transaction", "a:b") + line("DISCONNECT")
	want := talk(whole)
	for a := range len(whole) + 1 {
		for b := a; b <= len(whole); b++ {
			if !is(t, fmt.Sprint("cut at ", a, " and ", b), talk(whole[:a], whole[a:b], whole[b:]), want) {
				return
			}
		}
	}
}

// cut: a text in pieces of any sizes.
func cut(r *rand.Rand, s string) []string {
	var all []string
	for s != "" {
		n := 1 + r.Intn(one(r, min(9, len(s)), min(100, len(s)), len(s)))
		all, s = append(all, s[:n]), s[n:]
	}
	return all
}

func TestP19_2_AnySessionsInAnyPieces(t *testing.T) {
	t.Parallel()
	heard := 0
	for seed := range 300 {
		r := thrown(seed)
		var b strings.Builder
		b.WriteString(handshake)
		s := talk(handshake).s
		for range 40 {
			in := someFrame(r, s, seed%3)
			b.WriteString(in)
			// Only so that what comes next is heard most often.
			s = talk(b.String()).s
			if heard++; s.Down {
				break
			}
		}
		whole := b.String()
		want := talk(whole)
		is(t, fmt.Sprint(seed, ", byte by byte"), talk(bytesOf(whole)...), want)
		for range 5 {
			if !is(t, fmt.Sprint(seed, ", in pieces"), talk(cut(r.Rand, whole)...), want) {
				return
			}
		}
	}
	if heard < 4000 {
		t.Errorf("heard %d", heard)
	}
}

// What is said is said of what is there: nothing waits for more bytes than it needs, and what waits is a frame's beginning.
func TestP19_2_HeardAtOnce(t *testing.T) {
	t.Parallel()
	whole := handshake + work
	want := talk(whole).acts
	acts := 0
	for at := range len(whole) + 1 {
		some := talk(whole[:at])
		if strings.Contains(some.s.Rest, "\x00") && !strings.Contains(some.s.Rest, "content-length") {
			t.Errorf("of the first %d wait %q", at, some.s.Rest)
		}
		if strings.HasPrefix(some.s.Rest, "\n") || strings.HasPrefix(some.s.Rest, "\r\n") {
			t.Errorf("of the first %d wait %q", at, some.s.Rest)
		}
		if len(some.acts) < acts {
			t.Errorf("of the first %d less is wanted than of fewer", at)
		}
		acts = len(some.acts)
		is(t, fmt.Sprint("of the first ", at), some.acts, want[:acts])
	}
}
