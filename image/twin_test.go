package image_test

import (
	"fmt"
	"math"
	"regexp"
	"strconv"
	"strings"

	"trivet/api"
	"trivet/core"
	"trivet/flt"
	"trivet/queue"
)

// What a part of the bytes is.
const (
	aNumber = iota
	aCount
	aTruth
	marks
	aText
)

// part is a number or a text of the bytes, and what it is there.
type part struct {
	role  int
	value string // of a number its digits
}

func (p part) bytes() string {
	if p.role == aText {
		return fmt.Sprintf("%d:%s,", len(p.value), p.value)
	}
	return p.value + ";"
}

// parts are bytes, told part by part in the chapter's order. Anything can be written so, whether it can be or not.
type parts []part

func (p parts) bytes() []byte {
	var b strings.Builder
	for _, x := range p {
		b.WriteString(x.bytes())
	}
	return []byte(b.String())
}

// put: the bytes with other ones in the place of one part's.
func (p parts) put(at int, text string) []byte {
	return []byte(string(p[:at].bytes()) + text + string(p[at+1:].bytes()))
}

func (p *parts) num(role, n int)     { *p = append(*p, part{role, strconv.Itoa(n)}) }
func (p *parts) numbers(list ...int) { p.each(len(list), func(at int) { p.num(aNumber, list[at]) }) }
func (p *parts) texts(list ...string) {
	p.each(len(list), func(at int) { *p = append(*p, part{aText, list[at]}) })
}
func (p *parts) each(n int, f func(int)) {
	for at := range n {
		f(at)
	}
}

func (p *parts) counted(n int, f func(int)) {
	p.num(aCount, n)
	p.each(n, f)
}

func (p *parts) truth(so bool) {
	if so {
		p.num(aTruth, 1)
	} else {
		p.num(aTruth, 0)
	}
}

func (p *parts) msg(m api.Msg) {
	p.texts(m.Topic, m.Body)
	p.truth(m.Durable)
	p.numbers(m.Until)
	p.counted(len(m.Props), func(at int) { p.texts(m.Props[at].Name, valueText(m.Props[at].Value)) })
}

// valueText: a value's text, by layer 7's chapter.
func valueText(v api.Value) string {
	switch v.Kind {
	case 1:
		return fmt.Sprint("i", v.Num)
	case 2:
		return fmt.Sprint("b", v.Num)
	case 3:
		return "t" + v.Text
	case 4:
		return "f" + flt.Text(v.Real)
	}
	return ""
}

func (p *parts) item(i api.Item) {
	p.numbers(i.Seq)
	p.truth(i.Again)
	p.msg(i.Msg)
}

// opParts: operations' bytes.
func opParts(list ...api.Op) parts {
	p := &parts{}
	p.counted(len(list), func(at int) {
		o, sum := list[at], 0
		for bit, so := range map[int]bool{1: o.Durable, 2: o.Auto, 4: o.Keep} {
			if so {
				sum += bit
			}
		}
		p.numbers(o.Kind, o.Conn, o.Sub, o.N)
		p.num(marks, sum)
		p.texts(o.Queue, o.Text)
		if o.Kind == publish {
			p.msg(o.Msg)
		}
	})
	return *p
}

// coreParts: a core's bytes.
func coreParts(c api.Core) parts {
	p := &parts{}
	p.numbers(c.Now)
	p.counted(len(c.Queues), func(at int) {
		q := c.Queues[at]
		p.texts(q.Name)
		p.truth(q.Durable)
		p.numbers(q.Depth, q.Seq, q.Tag)
		p.counted(len(q.Items), func(at int) { p.item(q.Items[at]) })
		p.counted(len(q.Held), func(at int) {
			h := q.Held[at]
			p.numbers(h.Tag, h.Conn, h.Sub)
			p.item(h.Item)
		})
	})
	p.counted(len(c.Binds), func(at int) { p.texts(c.Binds[at].Queue, c.Binds[at].Pattern) })
	p.counted(len(c.Subs), func(at int) {
		s := c.Subs[at]
		p.numbers(s.Conn, s.Sub)
		p.texts(s.Queue)
		p.numbers(s.Window)
		p.truth(s.Auto)
	})
	p.counted(len(c.Kept), func(at int) { p.msg(c.Kept[at]) })
	p.counted(len(c.Clients), func(at int) {
		p.texts(c.Clients[at].Name)
		p.counted(len(c.Clients[at].Packets), func(n int) { p.numbers(c.Clients[at].Packets[n]) })
	})
	return *p
}

// twin reads by a text's patterns; it stops by panic at the first thing that isn't there.
type twin struct{ rest string }

type stopped struct{}

var (
	numberForm = regexp.MustCompile(`^(0|-?[1-9][0-9]{0,18});`)
	textForm   = regexp.MustCompile(`^(0|[1-9][0-9]{0,18}):`)
)

func need(so bool) {
	if !so {
		panic(stopped{})
	}
}

func (t *twin) form(f *regexp.Regexp) int {
	found := f.FindStringSubmatch(t.rest)
	need(found != nil)
	t.rest = t.rest[len(found[0]):]
	n, err := strconv.ParseInt(found[1], 10, 64)
	need(err == nil)
	return int(n)
}

func (t *twin) num() int { return t.form(numberForm) }

func (t *twin) upTo(most int) int {
	n := t.num()
	need(n >= 0 && n <= most)
	return n
}

func (t *twin) truth() bool { return t.upTo(1) == 1 }

func (t *twin) text() string {
	n := t.form(textForm)
	need(n < len(t.rest) && t.rest[n] == ',')
	s := t.rest[:n]
	t.rest = t.rest[n+1:]
	return s
}

func (t *twin) msg() (m api.Msg) {
	m.Topic, m.Body = t.text(), t.text()
	m.Durable = t.truth()
	m.Until = t.num()
	for range t.upTo(16) {
		m.Props = append(m.Props, api.Prop{Name: t.text(), Value: t.value()})
	}
	return m
}

// value: the value of the text that comes next; that it is its very text is asked at last.
func (t *twin) value() (v api.Value) {
	s := t.text()
	need(s != "")
	v.Kind = strings.Index("ibtf", s[:1]) + 1
	switch v.Kind {
	case 1, 2:
		v.Num, _ = strconv.Atoi(s[1:])
	case 3:
		v.Text = s[1:]
	case 4:
		v.Real, _ = strconv.ParseFloat(s[1:], 64)
		if math.IsNaN(v.Real) {
			v.Real = math.NaN()
		}
	}
	need(valueText(v) == s)
	return v
}

func (t *twin) item() (i api.Item) {
	i.Seq = t.num()
	i.Again = t.truth()
	i.Msg = t.msg()
	return i
}

func (t *twin) ops() (list []api.Op) {
	for range t.upTo(16) {
		o := api.Op{Kind: t.num(), Conn: t.num(), Sub: t.num(), N: t.num()}
		sum := t.upTo(7)
		o.Durable, o.Auto, o.Keep = sum%2 == 1, sum/2%2 == 1, sum/4 == 1
		o.Queue, o.Text = t.text(), t.text()
		if o.Kind == publish {
			o.Msg = t.msg()
		}
		need(canOp(o))
		list = append(list, o)
	}
	return list
}

func (t *twin) queue() (q api.Queue) {
	q.Name, q.Durable = t.text(), t.truth()
	q.Depth, q.Seq, q.Tag = t.num(), t.num(), t.num()
	for range t.upTo(64) {
		q.Items = append(q.Items, t.item())
	}
	for range t.upTo(64) {
		q.Held = append(q.Held, api.Held{Tag: t.num(), Conn: t.num(), Sub: t.num(), Item: t.item()})
	}
	return q
}

func (t *twin) core() (c api.Core) {
	c.Now = t.num()
	for range t.upTo(16) {
		c.Queues = append(c.Queues, t.queue())
	}
	for range t.upTo(64) {
		c.Binds = append(c.Binds, api.Bind{Queue: t.text(), Pattern: t.text()})
	}
	for range t.upTo(32) {
		c.Subs = append(c.Subs, api.Sub{Conn: t.num(), Sub: t.num(), Queue: t.text(), Window: t.num(), Auto: t.truth()})
	}
	for range t.upTo(16) {
		c.Kept = append(c.Kept, t.msg())
	}
	for range t.upTo(16) {
		client := api.Client{Name: t.text()}
		for range t.upTo(32) {
			client.Packets = append(client.Packets, t.num())
		}
		c.Clients = append(c.Clients, client)
	}
	need(core.Good(c))
	return c
}

// canOp: whether an operation can be written down, told once more.
func canOp(o api.Op) bool {
	if o.Kind != publish && !same(o.Msg, api.Msg{}) || o.Kind == publish && !queue.Message(o.Msg) {
		return false
	}
	return o.Kind > 0 && o.Kind < 15 && o.Conn >= 0 && o.Conn < 8 && o.Sub >= 0 && o.Sub <= maxNum &&
		o.N >= 0 && o.N <= maxNum && len(o.Queue) < 17 && len(o.Text) < 65
}

// byTwin: what has to be answered of bytes.
func byTwin[T any](b []byte, read func(t *twin) T) (a answer[T]) {
	defer func() {
		if why := recover(); why == (stopped{}) {
			a = answer[T]{err: errForm}
		} else if why != nil {
			panic(why)
		}
	}()
	t := &twin{string(b)}
	what := read(t)
	need(t.rest == "")
	return answer[T]{what: what}
}

func twinOps(b []byte) answer[[]api.Op] { return byTwin(b, (*twin).ops) }

func twinCore(b []byte) answer[api.Core] { return byTwin(b, (*twin).core) }
