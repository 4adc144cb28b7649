package stomp_test

import (
	"fmt"
	"math/rand"
	"regexp"
	"slices"
	"strings"
	"sync"
	"testing"

	"trivet/api"
	"trivet/prop"
	"trivet/sframe"
)

// The chapter once more, told by other means: each command answers what comes of a copy of the state, a word among it, and nothing gives up; texts are told by patterns.

// comes is what comes of a frame: the state behind it, the acts, and the word with which the connection ends, if it does.
type comes struct {
	s    api.Stomp
	acts []api.Act
	word string
}

// asked is a frame's headers, the first of each name, and all in order.
type asked struct {
	first map[string]string
	frame api.Sframe
}

func askedOf(f api.Sframe) asked {
	a := asked{map[string]string{}, f}
	for _, h := range slices.Backward(f.Headers) {
		a.first[h.Name] = h.Text
	}
	return a
}

// twinNext: what Next answers.
func twinNext(s api.Stomp) step {
	s = remade(s)
	if s.Down {
		s.Rest = ""
		return step{s: s}
	}
	f, size, err := sframe.Next(s.Rest)
	s.Rest = s.Rest[size:]
	c := comes{s: s, word: "frame"}
	switch err {
	case 41:
		return step{s: s}
	case ok:
		c = twinHear(remade(s), askedOf(f))
	}
	if c.word == "" {
		return step{c.s, c.acts, true}
	}
	// What was given is gone, also if its transaction ends the connection.
	if strings.HasSuffix(f.Command, "ACK") && c.word == "transaction" {
		s = c.s
	}
	return step{downed(s), failed(c.word), true}
}

// Names, and where destinations lead, but for how long they may be in all.
var (
	someNames  = regexp.MustCompile(`^[a-z0-9_-]{1,16}$`)
	someQueues = regexp.MustCompile(`^/queue/[a-z0-9_-]{1,16}$`)
	someTopics = regexp.MustCompile(`^/topic/[a-z0-9_-]{1,16}(\.[a-z0-9_-]{1,16}){0,7}$`)
	somePlaces = regexp.MustCompile(`^/topic/((\*|[a-z0-9_-]{1,16})(\.(\*|[a-z0-9_-]{1,16})){0,7}|((\*|[a-z0-9_-]{1,16})\.){0,7}#)$`)
)

// twinPlace: where a destination leads: to a queue, to a topic, to a pattern that is none.
func twinPlace(s string) (queue, topic, pattern bool) {
	fits := len(s) <= 7+64
	return someQueues.MatchString(s), fits && someTopics.MatchString(s), fits && somePlaces.MatchString(s)
}

func twinHear(s api.Stomp, a asked) comes {
	command, r := a.frame.Command, a.first["receipt"]
	begins := command == "CONNECT" || command == "STOMP"
	switch {
	case begins == s.Up:
		return comes{word: command}
	case len(r) > 256:
		return comes{word: "receipt"}
	case begins:
		if !strings.Contains(","+a.first["accept-version"]+",", ",1.2,") {
			return comes{word: "version"}
		}
		s.Up = true
		return comes{s: s, acts: []api.Act{say(connected)}}
	}
	for name, of := range map[string]string{"destination": "SEND", "id": "SUBSCRIBE UNSUBSCRIBE ACK NACK", "transaction": "BEGIN COMMIT ABORT"} {
		if slices.Contains(strings.Fields(of), command) && a.first[name] == "" {
			return comes{word: name}
		}
	}
	switch command {
	case "SEND":
		return twinSend(s, a)
	case "SUBSCRIBE":
		return twinSubscribe(s, a)
	case "UNSUBSCRIBE":
		return twinUnsubscribe(s, a)
	case "ACK", "NACK":
		return twinSettle(s, a, command == "NACK")
	case "BEGIN", "COMMIT", "ABORT":
		return twinTransaction(s, a)
	case "DISCONNECT":
		return comes{s: downed(s), acts: append(receipt(r), end())}
	}
	return comes{word: command}
}

func twinSend(s api.Stomp, a asked) comes {
	queue, topic, _ := twinPlace(a.first["destination"])
	if !queue && !topic {
		return comes{word: "destination"}
	}
	name := a.first["destination"][7:]
	o := api.Op{Kind: opPublish, Msg: api.Msg{Topic: name, Body: a.frame.Body, Durable: a.first["persistent"] == "true"}}
	if queue {
		o.Queue = name
	}
	for header, words := range a.first {
		name, is := strings.CutPrefix(header, "p-")
		if !is {
			continue
		}
		v, err := prop.Parse(words)
		if err != ok || !someNames.MatchString(name) {
			return comes{word: "property"}
		}
		o.Msg.Props = append(o.Msg.Props, api.Prop{Name: name, Value: v})
	}
	if len(o.Msg.Props) > 16 {
		return comes{word: "property"}
	}
	slices.SortFunc(o.Msg.Props, func(a, b api.Prop) int { return strings.Compare(a.Name, b.Name) })
	return twinEither(s, a, o)
}

// twinEither: in a transaction or not.
func twinEither(s api.Stomp, a asked, o api.Op) comes {
	name, is := a.first["transaction"]
	if !is {
		return comes{s: s, acts: []api.Act{do(a.first["receipt"], o)}}
	}
	for at, x := range s.Txs {
		if x.Name == name && len(x.Ops) < 16 {
			s.Txs[at].Ops = append(s.Txs[at].Ops, o)
			return comes{s: s, acts: receipt(a.first["receipt"])}
		}
	}
	return comes{s: s, word: "transaction"}
}

func twinSubscribe(s api.Stomp, a asked) comes {
	id, destination := a.first["id"], a.first["destination"]
	if len(id) > 256 || len(s.Subs) > 7 {
		return comes{word: "id"}
	}
	for _, n := range s.Subs {
		if n.Name == id {
			return comes{word: "id"}
		}
	}
	queue, _, pattern := twinPlace(destination)
	if !queue && !pattern {
		return comes{word: "destination"}
	}
	ack, is := a.first["ack"]
	if is && ack != "auto" && ack != "client-individual" {
		return comes{word: "ack"}
	}
	after, act := subscribed(s, id, place{destination, queue, destination[7:]}, ack != "client-individual", a.first["receipt"])
	return comes{s: after, acts: []api.Act{act}}
}

func twinUnsubscribe(s api.Stomp, a asked) comes {
	left := s
	left.Subs, left.Given = nil, nil
	var ops []api.Op
	sub := -1
	for _, n := range s.Subs {
		if n.Name != a.first["id"] {
			left.Subs = append(left.Subs, n)
			continue
		}
		sub = n.Sub
		ops = append(ops, api.Op{Kind: opUnsubscribe, Conn: me, Sub: sub})
		if n.Queue == fmt.Sprintf("s%d-%d", me, sub) {
			ops = append(ops, api.Op{Kind: opDelete, Queue: n.Queue})
		}
	}
	if sub < 0 {
		return comes{word: "id"}
	}
	for _, g := range s.Given {
		if g.Sub != sub {
			left.Given = append(left.Given, g)
		}
	}
	return comes{s: left, acts: []api.Act{do(a.first["receipt"], ops...)}}
}

func twinSettle(s api.Stomp, a asked, back bool) comes {
	for at, g := range s.Given {
		if fmt.Sprint(g.Num) != a.first["id"] {
			continue
		}
		o := api.Op{Kind: opAck, Conn: me, Queue: g.Queue, N: g.Tag}
		if back {
			o.Kind, o.Auto = opNack, true
		}
		s.Given = append(s.Given[:at:at], s.Given[at+1:]...)
		return twinEither(s, a, o)
	}
	return comes{word: "id"}
}

func twinTransaction(s api.Stomp, a asked) comes {
	name, r := a.first["transaction"], a.first["receipt"]
	left := s
	left.Txs = nil
	var ops []api.Op
	for _, x := range s.Txs {
		if x.Name == name {
			ops = x.Ops
			continue
		}
		left.Txs = append(left.Txs, x)
	}
	there := len(left.Txs) < len(s.Txs)
	begins := a.frame.Command == "BEGIN"
	switch {
	case begins == there, begins && (len(name) > 256 || len(s.Txs) == 4):
		return comes{word: "transaction"}
	case begins:
		s.Txs = append(s.Txs, api.Trans{Name: name})
		return comes{s: s, acts: receipt(r)}
	case a.frame.Command == "COMMIT" && len(ops) > 0:
		return comes{s: left, acts: []api.Act{do(r, ops...)}}
	}
	return comes{s: left, acts: receipt(r)}
}

// twinTold: what Told answers.
func twinTold(s api.Stomp, a api.Act, e api.Errno) tells {
	switch {
	case s.Down:
		return tells{s: s}
	case e == ok:
		return tells{s, receipt(a.Text)}
	}
	return tells{downed(s), failed(fmt.Sprint("refused ", int(e)))}
}

// twinGive: what Give answers.
func twinGive(s api.Stomp, o api.Out) gives {
	for _, n := range s.Subs {
		if n.Sub == o.Sub && s.Up && !s.Down {
			return gives{given(s, o), messageOf(s, n, o)}
		}
	}
	return gives{s: s}
}

// one: one of a list.
func one[T any](r *rand.Rand, list ...T) T {
	return list[r.Intn(len(list))]
}

// dice throw what comes next; the greater their care is, the less often it breaks a rule.
type dice struct {
	*rand.Rand
	care int
}

// thrown: the dice of a row.
func thrown(seed int) dice {
	return dice{rand.New(rand.NewSource(int64(seed))), 1 + seed%2*30}
}

// slips: whether a rule may be broken, about once in so many times.
func (r dice) slips(times int) bool {
	return r.Intn(times*r.care) == 0
}

// slip: one of some texts that may break a rule, seldom; else another text.
func (r dice) slip(times int, other string, texts ...string) string {
	if r.slips(times) {
		return one(r.Rand, texts...)
	}
	return other
}

// someNum: a number that something was given by, most often.
func someNum(r dice, s api.Stomp) string {
	if len(s.Given) > 0 && !r.slips(30) {
		return fmt.Sprint(one(r.Rand, s.Given...).Num)
	}
	return one(r.Rand, "", "0", "1", fmt.Sprint(s.Num), fmt.Sprint(s.Num+1), fmt.Sprint(r.Intn(s.Num+1)))
}

// someTransaction: the name of a transaction, most often of one that is there, and of the first one.
func someTransaction(r dice, s api.Stomp) string {
	if len(s.Txs) > 0 && !r.slips(50) {
		return s.Txs[max(0, r.Intn(len(s.Txs)+6)-6)].Name
	}
	return one(r.Rand, "t1", "t2", "t:3", "t4", "t5", "", long(256), long(257))
}

// someId: the id of a subscription, most often of one that is there.
func someId(r dice, s api.Stomp) string {
	if len(s.Subs) > 0 && !r.slips(40) {
		return one(r.Rand, s.Subs...).Name
	}
	return one(r.Rand, "1", "2", "", "none")
}

// newId: the id of a subscription that isn't there, most often.
func newId(r dice, s api.Stomp) string {
	id := fmt.Sprint(r.Intn(30))
	for slices.ContainsFunc(s.Subs, func(n api.Named) bool { return n.Name == id }) {
		id += ":"
	}
	return r.slip(30, id, "", long(256), long(257), someId(r, s))
}

// somePlace: a destination, most often one that leads somewhere.
func somePlace(r dice, patterns bool) string {
	queues, topics, list := places()
	all := slices.Concat(queues, topics)
	if patterns || r.slips(40) {
		all = append(all, list...)
	}
	return r.slip(40, one(r.Rand, all...).destination, append(nowhere, "")...)
}

// someProps: headers that are properties, none most often.
func someProps(r dice) []string {
	switch r.Intn(12) {
	case 0:
		return allPairs()
	case 1:
		return with(manyPairs(1+r.Intn(5)), "p-k01", one(r.Rand, "i7", "tx", "x"))
	case 2:
		return manyPairs(map[bool]int{true: 17, false: 16}[r.slips(4)])
	case 3:
		return []string{r.slip(4, "p-a", "p-A", "p-", "p-a.b"), r.slip(4, "b1", "", "x", "b2")}
	}
	return nil
}

// moods: what rows have most of: everything; transactions; much that is given and settled.
var moods = [][]string{
	{"SEND", "SEND", "SUBSCRIBE", "SUBSCRIBE", "UNSUBSCRIBE", "ACK", "NACK", "BEGIN", "COMMIT", "ABORT"},
	{"SEND", "SEND", "SEND", "SEND", "SEND", "SEND", "SEND", "ACK", "NACK", "ACK", "SUBSCRIBE", "BEGIN", "BEGIN", "COMMIT"},
	{"SEND", "SUBSCRIBE", "SUBSCRIBE", "ACK", "NACK", "BEGIN", "COMMIT", "ABORT", "UNSUBSCRIBE"},
}

// someHeaders: the headers of a command, most often such as are heard.
func someHeaders(r dice, s api.Stomp, command string) []string {
	var pairs []string
	switch command {
	case "SEND":
		pairs = with(someProps(r), "destination", somePlace(r, false))
		if r.Intn(3) == 0 {
			pairs = with(pairs, "persistent", one(r.Rand, "true", "true", "false", ""))
		}
	case "SUBSCRIBE":
		pairs = []string{"id", newId(r, s), "destination", somePlace(r, true)}
		if r.Intn(3) > 0 {
			pairs = with(pairs, "ack", r.slip(30, one(r.Rand, "auto", "client-individual", "client-individual"), "client", ""))
		}
	case "UNSUBSCRIBE":
		pairs = []string{"id", someId(r, s)}
	case "ACK", "NACK":
		pairs = []string{"id", someNum(r, s)}
	case "BEGIN":
		pairs = []string{"transaction", r.slip(20, fmt.Sprint("t", len(s.Given), ":", s.Count, ":", r.Intn(1000)), "", long(256), long(257), someTransaction(r, s))}
	case "COMMIT", "ABORT":
		pairs = []string{"transaction", someTransaction(r, s)}
	}
	if strings.Contains("SEND ACK NACK", command) && len(s.Txs) > 0 && r.Intn(2) == 0 {
		pairs = with(pairs, "transaction", someTransaction(r, s))
	}
	return pairs
}

// someCommand: a command, most often one that there is something for.
func someCommand(r dice, s api.Stomp, mood int) string {
	command := one(r.Rand, moods[mood]...)
	settles := command == "ACK" || command == "NACK"
	switch {
	case r.slips(60):
		return one(r.Rand, "CONNECT", "CONNECT", "STOMP", "MESSAGE", "DISCONNECT", one(r.Rand, strangers...), command)
	case command == "BEGIN" && len(s.Txs) == 4, settles && len(s.Given) == 0, command == "UNSUBSCRIBE" && len(s.Subs) == 0:
		return "SEND"
	case (command == "COMMIT" || command == "ABORT") && len(s.Txs) == 0:
		return "BEGIN"
	case command == "SUBSCRIBE" && len(s.Subs) == 8:
		return one(r.Rand, "SEND", "SEND", "UNSUBSCRIBE")
	}
	return command
}

// someFrame: what may come next, most often something that is heard.
func someFrame(r dice, s api.Stomp, mood int) string {
	command := someCommand(r, s, mood)
	if !s.Up {
		return r.slip(10, line(one(r.Rand, "CONNECT", "STOMP"), "accept-version", "1.1,1.2"), line(command), line("CONNECT", "accept-version", "1.1"), line("SEND"))
	}
	pairs := someHeaders(r, s, command)
	if r.Intn(3) == 0 {
		pairs = with(pairs, "receipt", r.slip(20, one(r.Rand, "", "r", "r:1", long(256)), long(257)))
	}
	in := one(r.Rand, "", "", "\n", "\r\n") + wire(command, one(r.Rand, "", "", "", "body"), pairs...)
	if r.slips(40) {
		b := []byte(in)
		b[r.Intn(len(b))] ^= 1 << r.Intn(8)
		return string(b)
	}
	return in
}

// madeOnce: all messages, made once: they are asked for often.
var madeOnce = sync.OnceValue(messages)

// someOut: what may be handed out, most often to somebody.
func someOut(r dice, s api.Stomp) api.Out {
	o := api.Out{Conn: me, Sub: r.Intn(s.Count + 2), Tag: one(r.Rand, 0, 1+r.Intn(99), 1+r.Intn(99)), Queue: one(r.Rand, "a", "q"), Again: r.Intn(2) == 0, Msg: one(r.Rand, madeOnce()...)}
	if len(s.Subs) > 0 && r.Intn(10) > 0 {
		o.Sub = one(r.Rand, s.Subs...).Sub
	}
	return o
}

func TestP19_1_AgainstATwin(t *testing.T) {
	t.Parallel()
	count := make(map[string]int)
	for seed := range 1200 {
		r := thrown(seed)
		s, mood := fresh(), seed%3
		for at := range 120 {
			what := fmt.Sprint("row ", seed, ", ", at)
			if r.Intn(6) < 1+mood {
				o := someOut(r, s)
				want := twinGive(s, o)
				if !is(t, what+": Give", give(s, o), want) {
					return
				}
				s = want.s
				continue
			}
			s.Rest += someFrame(r, s, mood)
			want := twinNext(s)
			if !is(t, what+": Next", next(s, ""), want) {
				return
			}
			counted(count, s, want)
			s = want.s
			for _, a := range want.acts {
				if a.Kind != isDo {
					continue
				}
				e := ok
				if r.slips(50) {
					e = one(r.Rand, errnos...)
				}
				want := twinTold(s, a, e)
				if !is(t, what+": Told", told(s, a, e), want) {
					return
				}
				s = want.s
			}
			if s.Down {
				break
			}
		}
	}
	for _, word := range []string{"version", "frame", "receipt", "destination", "property", "transaction", "id", "ack", "SEND", "CONNECT", "MESSAGE", "eight", "four", "16 ops", "much given"} {
		if count[word] < 10 {
			t.Errorf("how often %s: %d", word, count[word])
		}
	}
}

// counted counts what a row came upon: the words with which a connection ended, and some states.
func counted(count map[string]int, s api.Stomp, c step) {
	for _, a := range c.acts {
		if word, is := strings.CutPrefix(a.Bytes, "ERROR\nmessage:"); is {
			count[strings.TrimSuffix(word, "\n\n\x00")]++
		}
	}
	for name, so := range map[string]bool{
		"eight":      len(s.Subs) == 8,
		"four":       len(s.Txs) == 4,
		"much given": len(s.Given) > 16,
		"16 ops":     slices.ContainsFunc(s.Txs, func(x api.Trans) bool { return len(x.Ops) == 16 }),
	} {
		if so {
			count[name]++
		}
	}
}
