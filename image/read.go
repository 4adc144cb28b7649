package image

import (
	"trivet/api"
	"trivet/cord"
	"trivet/prop"
)

// reader reads operations and cores; odd: something was there that is never written. Whether what was read can be, it doesn't ask.
type reader struct {
	*cord.Reader
	odd bool
}

// insist: what was read is odd, if something isn't so.
func (r *reader) insist(so bool) {
	if !so {
		r.odd = true
	}
}

// whole: whether all was read, and all of it as it is written.
func (r *reader) whole() bool {
	return !r.odd && r.End()
}

// truth: the truth that comes next.
func (r *reader) truth() bool {
	n := r.Num()
	r.insist(n == 0 || n == 1)
	return n == 1
}

// listOf: how many are told next, and these, each read by a function; gives up as soon as something is wrong: any number of them may be told.
func listOf[E any](r *reader, read func() E) []E {
	var all []E
	for range r.Count() {
		all = append(all, read())
		if r.odd || r.Bad() {
			return nil
		}
	}
	return all
}

func (r *reader) ops() []api.Op {
	return listOf(r, func() api.Op {
		o := api.Op{Kind: r.Num(), Conn: r.Num(), Sub: r.Num(), N: r.Num()}
		o.Durable, o.Auto, o.Keep = r.marks()
		o.Queue, o.Text = r.Str(), r.Str()
		if o.Kind == api.OpPublish {
			o.Msg = r.msg()
		}
		return o
	})
}

// marks: the truths of an operation that come next, as one number.
func (r *reader) marks() (durable, auto, keep bool) {
	n := r.Num()
	r.insist(0 <= n && n < beyondMarks)
	return n&markDurable != 0, n&markAuto != 0, n&markKeep != 0
}

func (r *reader) msg() api.Msg {
	m := api.Msg{Topic: r.Str(), Body: r.Str(), Durable: r.truth(), Until: r.Num()}
	props, err := prop.Read(r.Reader)
	r.insist(err == api.OK)
	m.Props = props
	return m
}

func (r *reader) core() api.Core {
	return api.Core{
		Now:    r.Num(),
		Queues: listOf(r, func() api.Queue { return r.queue() }),
		Binds:  listOf(r, func() api.Bind { return api.Bind{Queue: r.Str(), Pattern: r.Str()} }),
		Subs: listOf(r, func() api.Sub {
			return api.Sub{Conn: r.Num(), Sub: r.Num(), Queue: r.Str(), Window: r.Num(), Auto: r.truth()}
		}),
		Kept: listOf(r, func() api.Msg { return r.msg() }),
		Clients: listOf(r, func() api.Client {
			return api.Client{Name: r.Str(), Packets: listOf(r, func() int { return r.Num() })}
		}),
	}
}

func (r *reader) queue() api.Queue {
	return api.Queue{
		Name:    r.Str(),
		Durable: r.truth(),
		Depth:   r.Num(),
		Seq:     r.Num(),
		Tag:     r.Num(),
		Items:   listOf(r, func() api.Item { return r.item() }),
		Held: listOf(r, func() api.Held {
			return api.Held{Tag: r.Num(), Conn: r.Num(), Sub: r.Num(), Item: r.item()}
		}),
	}
}

func (r *reader) item() api.Item {
	return api.Item{Seq: r.Num(), Again: r.truth(), Msg: r.msg()}
}
