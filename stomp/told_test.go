package stomp_test

import (
	"fmt"
	"math"
	"strings"
	"testing"

	"trivet/api"
	"trivet/stomp"
)

// tells is all that Told can answer.
type tells struct {
	s    api.Stomp
	acts []api.Act
}

func told(s api.Stomp, a api.Act, e api.Errno) tells {
	after, acts := stomp.Told(s, me, a, e)
	return tells{after, acts}
}

// wantedActs: one of each kind of what is wanted, as Next wants it, with this receipt.
func wantedActs(receipt string) []api.Act {
	var list []api.Act
	s := busy()
	s.Txs[2].Name = "t2"
	for _, in := range []string{
		line("SEND", "destination", "/queue/q", "receipt", receipt),
		line("SUBSCRIBE", "id", "new", "destination", "/queue/q", "receipt", receipt),
		line("SUBSCRIBE", "id", "new", "destination", "/topic/a.*", "receipt", receipt),
		line("UNSUBSCRIBE", "id", "z", "receipt", receipt),
		line("UNSUBSCRIBE", "id", "0", "receipt", receipt),
		line("ACK", "id", "5", "receipt", receipt),
		line("NACK", "id", "5", "receipt", receipt),
		line("COMMIT", "transaction", "t", "receipt", receipt),
		line("COMMIT", "transaction", "t2", "receipt", receipt),
	} {
		list = append(list, next(s, in).acts...)
	}
	return list
}

// receipts: texts that a receipt can have.
var receipts = []string{"", "r", " ", "a:b\\\r\n\x00\xff", long(255), long(256), strings.Repeat("\\", 256)}

func TestP19_1_ToldThatItIsDone(t *testing.T) {
	for what, s := range opened() {
		s.Rest = "what waits"
		for _, r := range receipts {
			acts := wantedActs(r)
			is(t, "how many", len(acts), 9)
			for at, a := range acts {
				is(t, "the kind", a.Kind, isDo)
				is(t, fmt.Sprintf("%s: act %d, %.20q", what, at, r), told(s, a, ok), tells{s, receipt(r)})
			}
		}
	}
	is(t, "byte by byte", told(up(), wantedActs("a:1")[0], ok).acts, []api.Act{say("RECEIPT\nreceipt-id:a\\c1\n\n\x00")})
}

func TestP19_1_ToldOfAnError(t *testing.T) {
	for what, s := range opened() {
		s.Rest = "what waits"
		for _, r := range receipts {
			for at, a := range wantedActs(r) {
				for _, e := range errnos {
					if e != ok {
						is(t, fmt.Sprint(what, ": act ", at, ", ", e), told(s, a, e), tells{downed(s), failed(fmt.Sprintf("refused %d", e))})
					}
				}
			}
		}
	}
	is(t, "byte by byte", told(up(), wantedActs("r")[0], errDeep), tells{downed(up()), []api.Act{say("ERROR\nmessage:refused 35\n\n\x00"), end()}})
}

// Behind the end nothing is said.
func TestP19_1_ToldToNobody(t *testing.T) {
	for what, s := range opened() {
		s = downed(s)
		for _, r := range []string{"", "r"} {
			for _, a := range wantedActs(r) {
				for _, e := range errnos {
					is(t, fmt.Sprint(what, ": ", e), told(s, a, e), tells{s: s})
				}
			}
		}
	}
	// A DISCONNECT or a broken rule that is heard ahead of it is such an end.
	for _, in := range []string{line("DISCONNECT"), line("FOO"), "no frame\n\n\x00"} {
		s := next(busy(), in).s
		is(t, in, told(s, wantedActs("r")[0], ok), tells{s: s})
	}
	is(t, "of two errors", told(told(busy(), wantedActs("r")[0], errArg).s, wantedActs("s")[1], errDeep), tells{s: downed(busy())})
}

// What no front wanted does no harm: whole frames go out, or none.
func TestP19_1_ToldOfWhatWasNeverWanted(t *testing.T) {
	for what, s := range opened() {
		for _, text := range []string{"", "r", long(257), long(5000), long(16362), long(16363), strings.Repeat("\n", 8181), strings.Repeat("\n", 8182), long(70000)} {
			for _, kind := range []int{0, isSay, isDo, isEnd, 9, -1} {
				for _, ref := range []int{0, 1, -1, math.MaxInt} {
					for _, e := range []api.Errno{ok, errArg, errDeep} {
						got := told(s, api.Act{Kind: kind, Bytes: long(99), Ref: ref, Text: text}, e)
						want := tells{s, receipt(text)}
						switch {
						case e != ok:
							want = tells{downed(s), failed(fmt.Sprintf("refused %d", e))}
						case len(line("RECEIPT", "receipt-id", text)) > 16384:
							want.acts = nil
						}
						is(t, what, got, want)
					}
				}
			}
		}
	}
	for _, conn := range []int{-1, 8, math.MinInt, math.MaxInt} {
		for _, k := range kinds() {
			s := busy()
			s.Rest = line(k.command, k.pairs...)
			stomp.Next(s, conn)
		}
		stomp.Told(busy(), conn, do("r"), errArg)
		stomp.Lost(busy(), conn)
	}
}
