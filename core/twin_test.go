package core_test

import (
	"fmt"
	"maps"
	"math"
	"math/rand"
	"regexp"
	"slices"
	"strings"
	"testing"

	"trivet/api"
	"trivet/core"
	"trivet/prop"
)

var (
	nameForm    = regexp.MustCompile(`^[a-z0-9_-]{1,16}\z`)
	topicForm   = regexp.MustCompile(`^[a-z0-9_-]{1,16}(\.[a-z0-9_-]{1,16}){0,7}\z`)
	patternForm = regexp.MustCompile(`^(([a-z0-9_-]{1,16}|\*)\.){0,7}([a-z0-9_-]{1,16}|\*|#)\z`)
)

func isName(s string) bool    { return nameForm.MatchString(s) }
func isTopic(s string) bool   { return len(s) <= 64 && topicForm.MatchString(s) }
func isPattern(s string) bool { return len(s) <= 64 && patternForm.MatchString(s) }

// forms: of each pattern that was asked for, the form of its topics.
var forms = map[string]*regexp.Regexp{}

// hasTopic: whether a topic is one of a pattern's.
func hasTopic(pattern, topic string) bool {
	if pattern == "#" {
		return true
	}
	if seen := forms[pattern]; seen != nil {
		return seen.MatchString(topic)
	}
	form := strings.ReplaceAll(strings.ReplaceAll(pattern, ".", `\.`), "*", `[^.]+`)
	form = strings.Replace(form, `\.#`, `(\..+)?`, 1)
	forms[pattern] = regexp.MustCompile("^" + form + `\z`)
	return forms[pattern].MatchString(topic)
}

func canMsg(m api.Msg) bool {
	return isTopic(m.Topic) && len(m.Body) <= 1024 && prop.Valid(m.Props) && m.Until >= 0 && m.Until <= maxNum
}

// canQueue: whether a queue can be.
func canQueue(q api.Queue) bool {
	if !isName(q.Name) || q.Depth < 1 || q.Depth > 64 || q.Seq < 0 || q.Seq > maxNum || q.Tag < 0 || q.Tag > maxNum || len(q.Items)+len(q.Held) > q.Depth {
		return false
	}
	var seqs []int
	for at, i := range q.Items {
		if at > 0 && q.Items[at-1].Seq >= i.Seq || !canMsg(i.Msg) {
			return false
		}
		seqs = append(seqs, i.Seq)
	}
	for at, h := range q.Held {
		if at > 0 && q.Held[at-1].Tag >= h.Tag || h.Tag < 1 || h.Tag > q.Tag || h.Conn < 0 || h.Conn > 7 || h.Sub < 0 || h.Sub > maxNum || !canMsg(h.Item.Msg) {
			return false
		}
		seqs = append(seqs, h.Item.Seq)
	}
	slices.Sort(seqs)
	return len(slices.Compact(slices.Clone(seqs))) == len(seqs) && (len(seqs) == 0 || seqs[0] >= 1 && seqs[len(seqs)-1] <= q.Seq)
}

// entry is a message in a plain queue; it waits if it has no tag.
type entry struct {
	seq, tag, conn, sub int
	again               bool
	msg                 api.Msg
}

// plain is a queue whose entries stand in no order.
type plain struct {
	durable         bool
	depth, seq, tag int
	all             map[int]*entry
}

// first: the number of the first one that waits; 0: nothing waits.
func (p *plain) first() int {
	low := 0
	for seq, e := range p.all {
		if e.tag == 0 && (low == 0 || seq < low) {
			low = seq
		}
	}
	return low
}

func (p *plain) expire(now int) {
	maps.DeleteFunc(p.all, func(_ int, e *entry) bool { return e.tag == 0 && e.msg.Until > 0 && e.msg.Until <= now })
}

func (p *plain) putBack(which func(e *entry) bool) {
	for _, e := range p.all {
		if e.tag > 0 && which(e) {
			e.tag, e.conn, e.sub, e.again = 0, 0, 0, true
		}
	}
}

// twin is a core told once more, by other means: nothing in it is in order, and nothing is done by the layers below.
type twin struct {
	now    int
	queues map[string]*plain
	binds  map[[2]string]bool
	subs   map[[2]int]api.Sub
	kept   map[string]api.Msg
	seen   map[string]map[int]bool
	out    []api.Out
}

// twinOf: the twin of a core that can be.
func twinOf(c api.Core) *twin {
	t := &twin{c.Now, map[string]*plain{}, map[[2]string]bool{}, map[[2]int]api.Sub{}, map[string]api.Msg{}, map[string]map[int]bool{}, nil}
	for _, q := range c.Queues {
		p := &plain{q.Durable, q.Depth, q.Seq, q.Tag, map[int]*entry{}}
		for _, i := range q.Items {
			p.all[i.Seq] = &entry{seq: i.Seq, again: i.Again, msg: i.Msg}
		}
		for _, h := range q.Held {
			p.all[h.Item.Seq] = &entry{h.Item.Seq, h.Tag, h.Conn, h.Sub, h.Item.Again, h.Item.Msg}
		}
		t.queues[q.Name] = p
	}
	for _, b := range c.Binds {
		t.binds[[2]string{b.Queue, b.Pattern}] = true
	}
	for _, s := range c.Subs {
		t.subs[[2]int{s.Conn, s.Sub}] = s
	}
	for _, m := range c.Kept {
		t.kept[m.Topic] = m
	}
	for _, k := range c.Clients {
		t.seen[k.Name] = map[int]bool{}
		for _, n := range k.Packets {
			t.seen[k.Name][n] = true
		}
	}
	return t
}

// sorted: a map's keys, in order.
func sorted[K comparable, V any](m map[K]V, order func(a, b K) int) []K {
	return slices.SortedFunc(maps.Keys(m), order)
}

func pairs(a, b [2]int) int    { return slices.Compare(a[:], b[:]) }
func texts(a, b [2]string) int { return slices.Compare(a[:], b[:]) }
func numbers(a, b int) int     { return a - b }
func between(n, a, b int) bool { return n >= a && n <= b }
func subscriber(o api.Op) bool { return between(o.Conn, 0, 7) && between(o.Sub, 0, maxNum) }

// core: what waits and what is held, in order.
func (p *plain) core() (items []api.Item, held []api.Held) {
	for _, seq := range sorted(p.all, numbers) {
		if e := p.all[seq]; e.tag == 0 {
			items = append(items, api.Item{Seq: seq, Again: e.again, Msg: e.msg})
		} else {
			held = append(held, api.Held{Tag: e.tag, Conn: e.conn, Sub: e.sub, Item: api.Item{Seq: seq, Again: e.again, Msg: e.msg}})
		}
	}
	slices.SortFunc(held, func(a, b api.Held) int { return a.Tag - b.Tag })
	return items, held
}

// core: the core whose twin it is.
func (t *twin) core() api.Core {
	c := api.Core{Now: t.now}
	for _, name := range sorted(t.queues, strings.Compare) {
		p := t.queues[name]
		items, held := p.core()
		c.Queues = append(c.Queues, api.Queue{Name: name, Durable: p.durable, Depth: p.depth, Seq: p.seq, Tag: p.tag, Items: items, Held: held})
	}
	for _, k := range sorted(t.binds, texts) {
		c.Binds = append(c.Binds, api.Bind{Queue: k[0], Pattern: k[1]})
	}
	for _, k := range sorted(t.subs, pairs) {
		c.Subs = append(c.Subs, t.subs[k])
	}
	for _, k := range sorted(t.kept, strings.Compare) {
		c.Kept = append(c.Kept, t.kept[k])
	}
	for _, k := range sorted(t.seen, strings.Compare) {
		c.Clients = append(c.Clients, api.Client{Name: k, Packets: sorted(t.seen[k], numbers)})
	}
	return c
}

// hand: the first one that waits goes out; what can't be ends in an error.
func (t *twin) hand(name string, conn, sub int, auto bool) api.Errno {
	p := t.queues[name]
	if p.tag == maxNum {
		return errArg
	}
	seq := p.first()
	if seq == 0 {
		return errNone
	}
	e := p.all[seq]
	o := api.Out{Conn: conn, Sub: sub, Queue: name, Again: e.again, Msg: e.msg}
	if auto {
		delete(p.all, seq)
	} else {
		p.tag++
		e.tag, e.conn, e.sub, o.Tag = p.tag, conn, sub, p.tag
	}
	t.out = append(t.out, o)
	return ok
}

// hungry: the first subscription that may have something of a queue.
func (t *twin) hungry(name string) (api.Sub, bool) {
	for _, k := range sorted(t.subs, pairs) {
		s, held := t.subs[k], 0
		for _, e := range t.queues[name].all {
			if e.tag > 0 && e.conn == s.Conn && e.sub == s.Sub {
				held++
			}
		}
		if s.Queue == name && (s.Auto || held < s.Window) {
			return s, true
		}
	}
	return api.Sub{}, false
}

func (t *twin) pump() api.Errno {
	for _, name := range sorted(t.queues, strings.Compare) {
		p := t.queues[name]
		p.expire(t.now)
		for p.first() > 0 {
			s, there := t.hungry(name)
			if !there {
				break
			}
			if err := t.hand(name, s.Conn, s.Sub, s.Auto); err != ok {
				return err
			}
		}
	}
	return ok
}

// do: what an operation answers.
func (t *twin) do(o api.Op) answer {
	err := t.act(o)
	if err == ok {
		err = t.pump()
	}
	if err != ok {
		return answer{err: err}
	}
	return answer{core: t.core(), out: t.out}
}

func (t *twin) act(o api.Op) api.Errno {
	q := t.queues[o.Queue]
	switch o.Kind {
	case declare:
		switch {
		case q != nil && (q.durable != o.Durable || q.depth != o.N):
			return errThere
		case q != nil:
			return ok
		case !isName(o.Queue):
			return errName
		case !between(o.N, 1, 64):
			return errArg
		case len(t.queues) == 16:
			return errRoom
		}
		t.queues[o.Queue] = &plain{durable: o.Durable, depth: o.N, all: map[int]*entry{}}
	case remove:
		if q == nil {
			return errNone
		}
		t.drop(o.Queue)
	case bind:
		return t.bind(o)
	case unbind:
		if !t.binds[[2]string{o.Queue, o.Text}] {
			return errNone
		}
		delete(t.binds, [2]string{o.Queue, o.Text})
	case publish:
		return t.publish(o)
	case release, forget:
		if !isName(o.Text) {
			return errName
		}
		delete(t.seen[o.Text], o.N)
		if o.Kind == forget || len(t.seen[o.Text]) == 0 {
			delete(t.seen, o.Text)
		}
	case subscribe, unsubscribe, get:
		return t.consume(o)
	case ack, nack:
		if q == nil {
			return errNone
		}
		for seq, e := range q.all {
			if e.tag > 0 && e.tag == o.N && e.conn == o.Conn {
				if o.Kind == nack && o.Auto {
					q.putBack(func(other *entry) bool { return other == e })
				} else {
					delete(q.all, seq)
				}
				return ok
			}
		}
		return errNone
	case detach:
		if !between(o.Conn, 0, 7) {
			return errArg
		}
		maps.DeleteFunc(t.subs, func(k [2]int, _ api.Sub) bool { return k[0] == o.Conn })
		for _, p := range t.queues {
			p.putBack(func(e *entry) bool { return e.conn == o.Conn })
		}
	case tick:
		if o.N < 0 || uint64(o.N)+uint64(t.now) > maxNum {
			return errArg
		}
		t.now += o.N
	default:
		return errArg
	}
	return ok
}

// drop: a queue is gone, with its binds and subscriptions.
func (t *twin) drop(name string) {
	delete(t.queues, name)
	maps.DeleteFunc(t.binds, func(k [2]string, _ bool) bool { return k[0] == name })
	maps.DeleteFunc(t.subs, func(_ [2]int, s api.Sub) bool { return s.Queue == name })
}

func (t *twin) bind(o api.Op) api.Errno {
	key := [2]string{o.Queue, o.Text}
	switch {
	case t.queues[o.Queue] == nil:
		return errNone
	case !isPattern(o.Text):
		return errTopic
	case !t.binds[key] && len(t.binds) == 64:
		return errRoom
	case o.Keep && !subscriber(o):
		return errArg
	}
	t.binds[key] = true
	for _, name := range sorted(t.kept, strings.Compare) {
		if o.Keep && hasTopic(o.Text, name) {
			t.out = append(t.out, api.Out{Conn: o.Conn, Sub: o.Sub, Queue: o.Queue, Kept: true, Msg: t.kept[name]})
		}
	}
	return ok
}

func (t *twin) publish(o api.Op) api.Errno {
	if !canMsg(o.Msg) {
		return errMsg
	}
	if o.Text != "" {
		switch {
		case !isName(o.Text):
			return errName
		case !between(o.N, 1, 65535):
			return errArg
		case t.seen[o.Text] == nil && len(t.seen) == 16:
			return errRoom
		case t.seen[o.Text][o.N]:
			return ok
		case len(t.seen[o.Text]) == 32:
			return errRoom
		case t.seen[o.Text] == nil:
			t.seen[o.Text] = map[int]bool{}
		}
		t.seen[o.Text][o.N] = true
	}
	if o.Queue != "" && t.queues[o.Queue] == nil {
		return errNone
	}
	for _, name := range sorted(t.queues, strings.Compare) {
		if p := t.queues[name]; t.meant(o, name) && !(o.Msg.Until > 0 && o.Msg.Until <= t.now) {
			if p.seq == maxNum {
				return errArg
			}
			if len(p.all) == p.depth {
				return errDeep
			}
			p.seq++
			p.all[p.seq] = &entry{seq: p.seq, msg: o.Msg}
		}
	}
	if o.Keep && o.Msg.Body == "" {
		delete(t.kept, o.Msg.Topic)
	} else if o.Keep {
		if t.kept[o.Msg.Topic].Topic == "" && len(t.kept) == 16 {
			return errRoom
		}
		t.kept[o.Msg.Topic] = o.Msg
	}
	return ok
}

// meant: whether a publish is for a queue.
func (t *twin) meant(o api.Op, name string) bool {
	if o.Queue != "" {
		return o.Queue == name
	}
	for k := range t.binds {
		if k[0] == name && hasTopic(k[1], o.Msg.Topic) {
			return true
		}
	}
	return false
}

func (t *twin) consume(o api.Op) api.Errno {
	key := [2]int{o.Conn, o.Sub}
	s, there := t.subs[key]
	if o.Kind == unsubscribe {
		if !there {
			return errNone
		}
		delete(t.subs, key)
		t.queues[s.Queue].putBack(func(e *entry) bool { return e.conn == o.Conn && e.sub == o.Sub })
		return ok
	}
	switch {
	case !subscriber(o) || o.Kind == subscribe && !between(o.N, 1, 32):
		return errArg
	case t.queues[o.Queue] == nil:
		return errNone
	case o.Kind == get:
		t.queues[o.Queue].expire(t.now)
		return t.hand(o.Queue, o.Conn, o.Sub, o.Auto)
	case there:
		return errThere
	case len(t.subs) == 32:
		return errRoom
	}
	t.subs[key] = api.Sub{Conn: o.Conn, Sub: o.Sub, Queue: o.Queue, Window: o.N, Auto: o.Auto}
	return ok
}

// strip: what outlives a loss of power.
func (t *twin) strip() api.Core {
	for name, p := range maps.Clone(t.queues) {
		if !p.durable {
			t.drop(name)
		}
		p.putBack(func(*entry) bool { return true })
		maps.DeleteFunc(p.all, func(_ int, e *entry) bool { return !e.msg.Durable })
	}
	clear(t.subs)
	return t.core()
}

// one: one of a list.
func one[T any](r *rand.Rand, list ...T) T {
	return list[r.Intn(len(list))]
}

// sometimes: mostly the one, seldom one of the others.
func sometimes[T any](r *rand.Rand, mostly T, others ...T) T {
	if r.Intn(12) > 0 {
		return mostly
	}
	return one(r, others...)
}

var topics = []string{"a", "b", "a.b", "a.c", "a.b.c", "c", "d.e.f"}

func someMsg(r *rand.Rand, now, n int) api.Msg {
	m := api.Msg{Topic: one(r, topics...), Body: sometimes(r, fmt.Sprint("m", n), "", strings.Repeat("x", 1024)), Durable: r.Intn(2) == 0, Props: props(r.Intn(3))}
	if r.Intn(3) == 0 {
		m.Until = min(max(now+r.Intn(9)-2, 0), maxNum)
	}
	return m
}

// someQueue: a queue that can be, in any state.
func someQueue(r *rand.Rand, name string, now int) api.Queue {
	q := api.Queue{Name: name, Durable: r.Intn(2) == 0, Depth: one(r, 1, 2, 3, 5, 64)}
	count := r.Intn(min(q.Depth, 6) + 1)
	q.Seq, q.Tag = count+r.Intn(3), count+r.Intn(3)
	if r.Intn(8) == 0 {
		q.Seq = maxNum - r.Intn(4)
	}
	if r.Intn(8) == 0 {
		q.Tag = maxNum - r.Intn(4)
	}
	for n := range count {
		i := api.Item{Seq: q.Seq - count + n + 1, Again: r.Intn(3) == 0, Msg: someMsg(r, now, 1000+n)}
		if r.Intn(2) == 0 {
			q.Items = append(q.Items, i)
		} else {
			q.Held = append(q.Held, api.Held{Tag: q.Tag - count + n + 1, Conn: r.Intn(3), Sub: r.Intn(3), Item: i})
		}
	}
	return q
}

var (
	names    = []string{"a", "aa", "b", "c", "d"}
	patterns = []string{"#", "a", "a.*", "a.#", "*", "b", "a.b.c", "*.b.#", "d.#"}
	clients  = []string{"me", "she", "you"}
)

// someCore: a core that can be, in any state, something waiting in it that a subscription could have too.
func someCore(r *rand.Rand) api.Core {
	c := api.Core{Now: one(r, 0, 1, 50, 1000, maxNum-5, maxNum)}
	for _, name := range names {
		if r.Intn(3) == 0 {
			continue
		}
		c.Queues = append(c.Queues, someQueue(r, name, c.Now))
		for _, s := range []string{"#", "*", "a", "a.#", "a.*", "b"} {
			if r.Intn(4) == 0 {
				c.Binds = append(c.Binds, api.Bind{Queue: name, Pattern: s})
			}
		}
	}
	for n := range 9 {
		if len(c.Queues) > 0 && r.Intn(3) == 0 {
			c.Subs = append(c.Subs, api.Sub{Conn: n / 3, Sub: n % 3, Queue: one(r, c.Queues...).Name, Window: one(r, 1, 2, 32), Auto: r.Intn(4) == 0})
		}
	}
	for _, s := range []string{"a", "a.b", "b", "c"} {
		if r.Intn(2) == 0 {
			m := someMsg(r, c.Now, r.Intn(9))
			m.Topic, m.Body = s, s+m.Body
			m.Body = m.Body[:min(len(m.Body), 1024)]
			c.Kept = append(c.Kept, m)
		}
	}
	for _, s := range clients {
		if r.Intn(2) == 0 {
			c.Clients = append(c.Clients, api.Client{Name: s, Packets: []int{1 + r.Intn(3), 7, 65535}[:1+r.Intn(3)]})
		}
	}
	return c
}

// crowded: a core with as many of all as there may be, or a few less.
func crowded(r *rand.Rand) api.Core {
	c := crowd()
	c.Queues[15].Name = "a"
	slices.SortFunc(c.Queues, func(a, b api.Queue) int { return strings.Compare(a.Name, b.Name) })
	// The last four were the renamed queue's.
	c.Binds = c.Binds[:60]
	c.Binds = append([]api.Bind{{Queue: "a", Pattern: "a.b"}, {Queue: "a", Pattern: "c"}, {Queue: "a", Pattern: "x"}, {Queue: "a", Pattern: "y"}}[r.Intn(3):], c.Binds...)
	c.Subs = c.Subs[:30+r.Intn(3)]
	for at := range c.Subs {
		// So that the lowest numbers are free.
		c.Subs[at].Sub += 2
		c.Subs[at].Queue = one(r, c.Queues...).Name
	}
	c.Kept = c.Kept[:14+r.Intn(3)]
	c.Clients[15] = api.Client{Name: "me", Packets: c.Clients[15].Packets}
	for at := range c.Clients {
		c.Clients[at].Packets = c.Clients[at].Packets[:30+r.Intn(3)]
	}
	c.Clients = c.Clients[r.Intn(2):]
	if r.Intn(2) == 0 {
		c.Queues = slices.DeleteFunc(c.Queues, func(q api.Queue) bool { return q.Name == "q14" })
		c.Binds = slices.DeleteFunc(c.Binds, func(b api.Bind) bool { return b.Queue == "q14" })
		c.Subs = slices.DeleteFunc(c.Subs, func(s api.Sub) bool { return s.Queue == "q14" })
	}
	return c
}

// someOp: an operation, mostly one that finds what it is for.
func someOp(r *rand.Rand, c api.Core, n int) api.Op {
	o := api.Op{
		Kind: sometimes(r, one(r, 1, 3, 3, 4, 5, 5, 5, 5, 5, 6, 7, 8, 8, 8, 9, 10, 10, 11, 11, 12, 12, 13, 14), 0, 2, 2, 2, 15, -1),
		Conn: sometimes(r, r.Intn(3), -1, 7, 8), Sub: sometimes(r, r.Intn(3), -1, maxNum, maxNum+1),
		Queue: sometimes(r, one(r, names...), "", "nowhere", "A"), Durable: r.Intn(2) == 0, Auto: r.Intn(3) == 0, Keep: r.Intn(3) == 0,
	}
	if len(c.Queues) > 0 && r.Intn(2) == 0 {
		o.Queue = one(r, c.Queues...).Name
	}
	switch o.Kind {
	case declare:
		o.N = sometimes(r, one(r, 1, 2, 3), 0, 64, 65)
	case bind, unbind:
		o.Text = sometimes(r, one(r, patterns...), "", "#.a", "A")
	case publish:
		o.Queue = sometimes(r, "", o.Queue)
		if r.Intn(3) == 0 {
			o.Text, o.N = sometimes(r, one(r, clients...), "A", "c09"), sometimes(r, 1+r.Intn(9), 0, 65535, 65536)
		}
		o.Msg = someMsg(r, c.Now, n)
		if r.Intn(30) == 0 {
			o.Msg.Topic = "A"
		}
	case release, forget:
		o.Text, o.N = sometimes(r, one(r, clients...), "", "A"), one(r, 0, 1, 2, 3, 7, 65535)
	case subscribe:
		o.N = sometimes(r, 1+r.Intn(3), 0, 32, 33)
	case ack, nack:
		o.N = r.Intn(4)
		for _, q := range c.Queues {
			if len(q.Held) > 0 && r.Intn(2) == 0 {
				h := one(r, q.Held...)
				o.Queue, o.N, o.Conn = q.Name, h.Tag, sometimes(r, h.Conn, 5)
			}
		}
	case tick:
		o.N = sometimes(r, r.Intn(4), -1, maxNum, maxNum-c.Now, maxNum-c.Now+1, math.MaxInt, math.MinInt)
	}
	return o
}

// someStart: a core to begin a long row with.
func someStart(r *rand.Rand) api.Core {
	switch r.Intn(4) {
	case 0:
		return crowded(r)
	case 1:
		return base()
	}
	return someCore(r)
}

// What each kind can answer: all of it has to come in the long rows.
var answers = map[int][]api.Errno{
	0: {errArg}, 15: {errArg}, -1: {errArg},
	declare:     {ok, errThere, errName, errArg, errRoom},
	remove:      {ok, errNone},
	bind:        {ok, errNone, errTopic, errRoom, errArg},
	unbind:      {ok, errNone},
	publish:     {ok, errMsg, errName, errArg, errRoom, errNone, errDeep},
	release:     {ok, errName},
	forget:      {ok, errName},
	subscribe:   {ok, errArg, errNone, errThere, errRoom},
	unsubscribe: {ok, errNone},
	get:         {ok, errArg, errNone},
	ack:         {ok, errNone},
	nack:        {ok, errNone},
	detach:      {ok, errArg},
	tick:        {ok, errArg},
}

func TestP11_1_LongRowsAreTheTwins(t *testing.T) {
	r := rand.New(rand.NewSource(111))
	count := map[[2]int]int{}
	for range 300 {
		c := someStart(r)
		if !core.Good(c) {
			t.Fatalf("can be: %+v", c)
		}
		for n := range 120 {
			o := someOp(r, c, n)
			got, want := do(c, o), twinOf(c).do(o)
			count[[2]int{o.Kind, int(want.err)}]++
			if !same(got, want) {
				t.Fatalf("%+v of\n%+v:\n%+v\nnot\n%+v", o, c, got, want)
			}
			if r.Intn(5) == 0 {
				is(t, "Strip", strip(c), answer{core: twinOf(c).strip()})
			}
			if got.err == ok {
				c = got.core
			}
		}
	}
	for kind, list := range answers {
		for _, err := range list {
			if n := count[[2]int{kind, int(err)}]; n < 5 {
				t.Errorf("kind %d answered %d just %d times", kind, err, n)
			}
		}
	}
}

func TestP11_2_LongRowsCanBe(t *testing.T) {
	r := rand.New(rand.NewSource(112))
	full := 0
	for range 400 {
		c := someStart(r)
		for n := range 120 {
			o := someOp(r, c, n)
			a := do(c, o)
			if a.err != ok {
				refused(t, fmt.Sprintf("%+v", o), a, a.err)
				continue
			}
			if c = a.core; !can(c) || !core.Good(c) {
				t.Fatalf("%+v leads to %+v", o, c)
			}
			if len(c.Queues) == 16 && len(c.Binds) == 64 || len(c.Subs) == 32 || len(c.Kept) == 16 || len(c.Clients) == 16 {
				full++
			}
		}
	}
	if full < 1000 {
		t.Errorf("just %d times full", full)
	}
}
