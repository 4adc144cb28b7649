package amqp_test

import (
	"fmt"
	"math/rand"
	"slices"
	"strings"
	"testing"

	"trivet/amqp"
	"trivet/api"
)

// talked is what came of bytes that came in by pieces: where the connection is, and all that was wanted and said.
type talked struct {
	s    api.Amqp
	acts []api.Act
}

// talk: each piece is put behind what waits, and all that is there is heard; of the acts that are to be done each seventh one is refused.
func talk(pieces ...string) talked {
	w := talked{s: amqp.New()}
	count := 0
	for _, piece := range pieces {
		w.s.Rest += piece
		for {
			after, acts, heard := amqp.Next(w.s, me)
			w.s, w.acts = after, append(w.acts, acts...)
			if !heard {
				break
			}
			for ; len(acts) > 0; acts = acts[1:] {
				if acts[0].Kind != isDo {
					continue
				}
				e := ok
				if count++; count%7 == 0 {
					e = errnos[count/7%len(errnos)]
				}
				var more []api.Act
				w.s, more = amqp.Told(w.s, me, acts[0], e)
				w.acts, acts = append(w.acts, more...), append(slices.Clone(acts), more...)
			}
		}
	}
	return w
}

// bytesOf: a text's bytes, one by one.
func bytesOf(s string) []string {
	var all []string
	for at := range len(s) {
		all = append(all, s[at:at+1])
	}
	return all
}

// handshake: what a client says ahead of all else.
var handshake = greeting + meth(0, "connection.start-ok", nil, "PLAIN", "", "en_US") + meth(0, "connection.tune-ok", 1, 16384, 0) + meth(0, "connection.open", "/") + on1("channel.open")

// sessions: whole connections, and such that break the rules.
func sessions() map[string]string {
	publish := on1("basic.publish", 0, "amq.topic", "a.b")
	work := on1("queue.declare", 0, "q", 4) + frame(8, 0, "") + on1("queue.bind", 0, "q", "amq.topic", "a.*") + on1("basic.consume", 0, "q") + publish + frame(2, 1, head(5, oneProp(), true)) + frame(3, 1, "he") + frame(8, 0, "") + frame(3, 1, "llo")
	list := map[string]string{
		"nothing":             "",
		"another protocol":    "GET / HTTP/1.1\r\n\r\n",
		"almost":              greeting[:7] + "\x00" + handshake,
		"a handshake":         handshake,
		"work":                handshake + work + on1("channel.close") + meth(0, "connection.close", 200, "bye") + "not heard any more",
		"confirms":            handshake + on1("confirm.select") + publish + content(0) + publish + content(1, "x") + on1("tx.select") + on1("channel.close-ok") + on1("channel.open") + work,
		"a transaction":       handshake + on1("tx.select") + publish + content(2, "h", "", "i") + on1("tx.rollback") + publish + content(0) + on1("tx.commit") + on1("tx.commit") + on1("basic.ack", 1, 0) + on1("basic.get", 0, "q"),
		"a body too long":     handshake + publish + content(2, "h", "ix") + work,
		"a method in between": handshake + publish + content(2, "h") + meth(0, "connection.close") + work,
		"no frame":            handshake + "\x01\x00\x01\x00\x00\x00\x01xx" + work,
		"too long a frame":    handshake + frame(8, 0, "") + "\x01\x00\x01\x00\x01\x00\x00" + work,
		"half a frame":        handshake + work + publish[:12],
	}
	return list
}

func TestP17_2_CutAtEveryPlace(t *testing.T) {
	t.Parallel()
	for what, whole := range sessions() {
		want := talk(whole)
		is(t, what+", byte by byte", talk(bytesOf(whole)...), want)
		for a := range len(whole) + 1 {
			if !is(t, fmt.Sprint(what, ", cut at ", a), talk(whole[:a], whole[a:]), want) {
				return
			}
		}
	}
}

func TestP17_2_CutAtEveryTwoPlaces(t *testing.T) {
	t.Parallel()
	whole := greeting + meth(0, "connection.start-ok") + meth(0, "connection.tune-ok") + meth(0, "connection.open") + on1("channel.open") + on1("basic.publish", 0, "", "q") + content(1, "x") + on1("channel.close")
	want := talk(whole)
	for a := range len(whole) + 1 {
		for b := a; b <= len(whole); b++ {
			if !is(t, fmt.Sprint("cut at ", a, " and ", b), talk(whole[:a], whole[a:b], whole[b:]), want) {
				return
			}
		}
	}
}

// cut: a text in pieces of any sizes.
func cut(r *rand.Rand, s string) []string {
	var all []string
	for s != "" {
		n := 1 + r.Intn(one(r, min(9, len(s)), min(100, len(s)), len(s)))
		all, s = append(all, s[:n]), s[n:]
	}
	return all
}

func TestP17_2_AnySessionsInAnyPieces(t *testing.T) {
	t.Parallel()
	for seed := range 600 {
		r := rand.New(rand.NewSource(int64(seed)))
		var b strings.Builder
		b.WriteString(handshake)
		s := talk(handshake).s
		for range 40 {
			in := someFrame(r, s, seed%3)
			b.WriteString(in)
			// Only so that what comes next is heard most often.
			s = next(s, in).s
			if s.Stage == stDown {
				break
			}
		}
		whole := b.String()
		want := talk(whole)
		is(t, fmt.Sprint(seed, ", byte by byte"), talk(bytesOf(whole)...), want)
		for range 5 {
			if !is(t, fmt.Sprint(seed, ", in pieces"), talk(cut(r, whole)...), want) {
				return
			}
		}
	}
}

// What is said is said of what is there: nothing waits for more bytes than it needs.
func TestP17_2_HeardAtOnce(t *testing.T) {
	t.Parallel()
	for what, whole := range sessions() {
		for at := range len(whole) + 1 {
			some := talk(whole[:at])
			if some.s.Stage == stDown {
				is(t, what+": nothing is left", some.s.Rest, "")
				break
			}
			// What waits is the beginning of a frame, or of the greeting.
			if n := len(some.s.Rest); n > 0 && some.s.Stage != stHeader && (n >= 8 && n >= 8+int(some.s.Rest[6])+int(some.s.Rest[5])<<8) {
				t.Errorf("%s: of the first %d wait %q", what, at, some.s.Rest)
			}
		}
	}
}
