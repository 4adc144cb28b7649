package stomp_test

import (
	"fmt"
	"math"
	"slices"
	"strings"
	"testing"

	"trivet/api"
)

// place is where a destination leads: to a queue, or to a topic or pattern.
type place struct {
	destination string
	queue       bool
	name        string
}

// places: destinations of queues, topics, patterns.
func places() (queues, topics, patterns []place) {
	for _, name := range []string{"q", "0", "-", "_", "a-b_9", "s3-1", long(16)} {
		queues = append(queues, place{"/queue/" + name, true, name})
	}
	for _, name := range []string{"q", "a.b", "x.y.z", "0.-._", "1.2.3.4.5.6.7.8", long(16), strings.Repeat(long(15)+".", 3) + long(16)} {
		topics = append(topics, place{"/topic/" + name, false, name})
	}
	for _, name := range []string{"*", "#", "a.*", "*.b", "a.#", "*.*.#", "a.*.c.#"} {
		patterns = append(patterns, place{"/topic/" + name, false, name})
	}
	return queues, topics, patterns
}

// nowhere: destinations of nothing; none is empty.
var nowhere = []string{
	"q", "/", "/queue", "/queue/", "/topic", "/topic/", "/queue/a.b", "/queue/*", "/queue/#", "/queue/A", "/queue/a/b", "/queue/ q", "/queue/q ",
	"/topic/a..b", "/topic/.a", "/topic/a.", "/topic/A", "/topic/a b", "/topic/#.a", "/topic/a.#.b", "/topic/a*", "/topic/a/b", "/topic/+",
	"queue/q", "topic/a", "//queue/q", "/Queue/q", "/queues/q", "/topics/a", "/exchange/a", "/temp-queue/q", "/queue/\x00", "/topic/\xff", "/topic/\n",
	"/queue/xxxxxxxxxxxxxxxxx", "/topic/xxxxxxxxxxxxxxxxx", "/topic/1.2.3.4.5.6.7.8.9", "/topic/aaaaaaaaaaaaaaaa.aaaaaaaaaaaaaaaa.aaaaaaaaaaaaaaaa.aaaaaaaaaaaaaa", " ",
}

// sent: the operation that a SEND to a place wants.
func sent(p place, body string, durable bool, props []api.Prop) api.Op {
	if p.queue {
		return sendOf(p.name, p.name, body, durable, props)
	}
	return sendOf("", p.name, body, durable, props)
}

func TestP19_1_Send(t *testing.T) {
	queues, topics, patterns := places()
	for what, s := range opened() {
		for _, p := range slices.Concat(queues, topics) {
			leads(t, what+" to "+p.destination, s, line("SEND", "destination", p.destination), s, do("", sent(p, "", false, nil)))
			leads(t, what+" to "+p.destination, s, wire("SEND", "hi", "content-type", "text/plain", "receipt", "r", "destination", p.destination, "destination", "x", "id", "z"), s, do("r", sent(p, "hi", false, nil)))
		}
		for _, p := range patterns {
			ends(t, what+" to "+p.destination, s, line("SEND", "destination", p.destination), "destination")
		}
		for _, destination := range nowhere {
			ends(t, what+" to "+destination, s, line("SEND", "destination", destination), "destination")
			ends(t, what+" to "+destination, s, line("SEND", "destination", destination, "destination", "/queue/q"), "destination")
		}
	}
}

func TestP19_1_SendOfABody(t *testing.T) {
	queue := place{"/queue/q", true, "q"}
	for _, body := range []string{"", "x", "\n", "SEND\n\n", "a:b\\c", long(1024)} {
		leads(t, "a body", busy(), wire("SEND", body, "destination", "/queue/q"), busy(), do("", sent(queue, body, false, nil)))
		leads(t, "a body of that length", busy(), wire("SEND", body, "destination", "/queue/q", "content-length", fmt.Sprint(len(body))), busy(), do("", sent(queue, body, false, nil)))
	}
	body := "\x00\x00x\x00"
	leads(t, "a body with bytes 00", busy(), wire("SEND", body, "destination", "/queue/q", "content-length", "4"), busy(), do("", sent(queue, body, false, nil)))
	// Without a length the body ends ahead of the first byte 00.
	leads(t, "a body with bytes 00", busy(), wire("SEND", "x", "destination", "/queue/q"), busy(), do("", sent(queue, "x", false, nil)))
}

func TestP19_1_Persistent(t *testing.T) {
	topic := place{"/topic/a.b", false, "a.b"}
	for text, durable := range map[string]bool{"true": true, "": false, "false": false, "1": false, "True": false, "TRUE": false, "true ": false, " true": false, "yes": false, "truer": false, "tru": false, "t": false, "b1": false} {
		leads(t, "persistent "+text, busy(), line("SEND", "destination", "/topic/a.b", "persistent", text), busy(), do("", sent(topic, "", durable, nil)))
		leads(t, "persistent "+text+" first", busy(), line("SEND", "persistent", text, "destination", "/topic/a.b", "persistent", "true"), busy(), do("", sent(topic, "", durable, nil)))
	}
	leads(t, "Persistent", busy(), line("SEND", "destination", "/topic/a.b", "Persistent", "true"), busy(), do("", sent(topic, "", false, nil)))
}

// texted: properties of every kind, at their edges, and their texts.
func texted() map[string]api.Value {
	return map[string]api.Value{
		"i0": whole(0), "i7": whole(7), "i-5": whole(-5), "i9223372036854775807": whole(math.MaxInt), "i-9223372036854775808": whole(math.MinInt),
		"b0": truth(0), "b1": truth(1),
		"t": text(""), "tx": text("x"), "ti7": text("i7"), "ta:b\r\n\\\x00\xff": text("a:b\r\n\\\x00\xff"), "t" + long(256): text(long(256)),
		"f0": real(0), "f-0": real(math.Copysign(0, -1)), "f1": real(1), "f0.1": real(0.1), "f1e+21": real(1e21), "f-2.5": real(-2.5),
	}
}

// textless: texts of no value.
var textless = []string{"", "x", "7", "i", "i05", "i+5", "i-0", "i 7", "i7 ", "i1.0", "i9223372036854775808", "b", "b2", "b01", "btrue", "f", "f1.0", "f01", "f1e21", "fnan", "f.5", "I7", "t" + long(257), "T"}

func TestP19_1_Properties(t *testing.T) {
	topic := place{"/topic/a.b", false, "a.b"}
	for words, v := range texted() {
		for _, name := range []string{"a", "k", "0", "-", "_", "p-k", long(16)} {
			want := []api.Prop{{Name: name, Value: v}}
			leads(t, fmt.Sprintf("%s: %.30q", name, words), busy(), line("SEND", "destination", "/topic/a.b", "p-"+name, words), busy(), do("", sent(topic, "", false, want)))
		}
	}
	for _, words := range textless {
		ends(t, fmt.Sprintf("%.30q", words), busy(), line("SEND", "p-k", words, "destination", "/topic/a.b"), "property")
		ends(t, fmt.Sprintf("%.30q", words), busy(), line("SEND", "p-a", "i1", "p-k", words, "p-z", "i2", "destination", "/topic/a.b"), "property")
		ends(t, fmt.Sprintf("%.30q, and once more", words), busy(), line("SEND", "p-k", words, "p-k", "i1", "destination", "/topic/a.b"), "property")
		// What is no property tells nothing.
		for _, name := range []string{"k", "p", "P-k", "pk", " p-k", "x-p-k", "p_k"} {
			leads(t, "no property: "+name, busy(), line("SEND", name, words, "destination", "/topic/a.b"), busy(), do("", sent(topic, "", false, nil)))
		}
	}
	for _, name := range []string{"", "A", "a.b", "a b", " a", "a:b", "*", "\xff", "\x00", long(17)} {
		ends(t, "the name "+name, busy(), line("SEND", "destination", "/topic/a.b", "p-"+name, "i7"), "property")
		ends(t, "the name "+name+", twice", busy(), line("SEND", "destination", "/topic/a.b", "p-"+name, "i7", "p-"+name, "i7"), "property")
	}
	leads(t, "of all kinds", busy(), line("SEND", with(allPairs(), "destination", "/topic/a.b", "persistent", "true")...), busy(), do("", sent(topic, "", true, allProps())))
	// Of one name the first counts, whatever the others are.
	for _, second := range []string{"i2", "i1", "b0", "x", ""} {
		leads(t, "twice, "+second, busy(), line("SEND", "p-k", "i1", "destination", "/topic/a.b", "p-j", "tj", "p-k", second), busy(), do("", sent(topic, "", false, []api.Prop{{Name: "j", Value: text("j")}, {Name: "k", Value: whole(1)}})))
	}
}

// manyPairs: so many headers that are properties, from the last name to the first one; manyProps: these.
func manyPairs(count int) (pairs []string) {
	for n := range count {
		pairs = append(pairs, fmt.Sprintf("p-k%02d", count-n), fmt.Sprint("i", count-n))
	}
	return pairs
}
func manyProps(count int) (list []api.Prop) {
	for n := range count {
		list = append(list, api.Prop{Name: fmt.Sprintf("k%02d", n+1), Value: whole(n + 1)})
	}
	return list
}

func TestP19_1_HowManyProperties(t *testing.T) {
	queue := place{"/queue/q", true, "q"}
	for count := range 31 {
		what := fmt.Sprint(count, " properties")
		in := line("SEND", with(manyPairs(count), "destination", "/queue/q")...)
		if count > 16 {
			ends(t, what, busy(), in, "property")
			continue
		}
		leads(t, what, busy(), in, busy(), do("", sent(queue, "", false, manyProps(count))))
		// One that is there counts once.
		if count > 0 && count <= 15 {
			leads(t, what+", all twice", busy(), line("SEND", with(with(manyPairs(count), "destination", "/queue/q"), manyPairs(count)...)...), busy(), do("", sent(queue, "", false, manyProps(count))))
		}
	}
	leads(t, "16, and one of them again", busy(), line("SEND", with(manyPairs(16), "p-k03", "x", "destination", "/queue/q")...), busy(), do("", sent(queue, "", false, manyProps(16))))
}

// Which word comes first where several could.
func TestP19_1_SendTheFirstWord(t *testing.T) {
	s := filled()
	all := []struct {
		name, text, word string
	}{
		{"receipt", long(257), "receipt"},
		{"destination", "", "destination"},
		{"p-k", "x", "property"},
		{"transaction", "none of these", "transaction"},
	}
	for at := range all {
		for _, destination := range []string{"", "x", "/topic/*"} {
			var pairs []string
			for _, c := range all[at:] {
				if c.name == "destination" {
					c.text = destination
				}
				// The order of the headers plays no part.
				pairs = append([]string{c.name, c.text}, pairs...)
			}
			if at > 1 {
				pairs = append(pairs, "destination", "/queue/q")
			}
			ends(t, "SEND", s, line("SEND", pairs...), all[at].word)
		}
	}
	ends(t, "SEND to a full transaction, with a property that can't be", changed(s, func(s *api.Stomp) { s.Txs[3].Ops = sends(16) }), line("SEND", "transaction", "t3", "p-k", "x", "destination", "/queue/q"), "property")
}
