package image

import (
	"trivet/api"
	"trivet/cord"
	"trivet/prop"
)

// writer lays bytes one behind the other. It asks nothing: what it is handed can be written down.
type writer struct {
	bytes []byte
}

// nums lays numbers behind what there is.
func (w *writer) nums(list ...int) {
	// By themselves first: layer 1 copies the bytes that it is handed, and to copy all of a core's for each number would take too long.
	w.bytes = append(w.bytes, cord.Num(nil, list...)...)
}

// text lays a text behind what there is.
func (w *writer) text(s string) {
	w.bytes = append(w.bytes, cord.Str(nil, s)...)
}

// truth lays a truth behind what there is.
func (w *writer) truth(so bool) {
	w.nums(mark(so, 1))
}

// each lays down how many a list has, and then each of them.
func each[E any](w *writer, list []E, put func(E)) {
	w.nums(len(list))
	for _, x := range list {
		put(x)
	}
}

// mark: the bit that tells a truth; 0, if it isn't so.
func mark(so bool, bit int) int {
	if so {
		return bit
	}
	return 0
}

func (w *writer) op(o api.Op) {
	marks := mark(o.Durable, markDurable) | mark(o.Auto, markAuto) | mark(o.Keep, markKeep)
	w.nums(o.Kind, o.Conn, o.Sub, o.N, marks)
	w.text(o.Queue)
	w.text(o.Text)
	if o.Kind == api.OpPublish {
		w.msg(o.Msg)
	}
}

func (w *writer) msg(m api.Msg) {
	w.text(m.Topic)
	w.text(m.Body)
	w.truth(m.Durable)
	w.nums(m.Until)
	// No error: a message that can be has properties that can be.
	props, _ := prop.Encode(m.Props)
	w.bytes = append(w.bytes, props...)
}

func (w *writer) core(c api.Core) {
	w.nums(c.Now)
	each(w, c.Queues, w.queue)
	each(w, c.Binds, w.bind)
	each(w, c.Subs, w.sub)
	each(w, c.Kept, w.msg)
	each(w, c.Clients, w.client)
}

func (w *writer) queue(q api.Queue) {
	w.text(q.Name)
	w.truth(q.Durable)
	w.nums(q.Depth, q.Seq, q.Tag)
	each(w, q.Items, w.item)
	each(w, q.Held, w.held)
}

func (w *writer) item(i api.Item) {
	w.nums(i.Seq)
	w.truth(i.Again)
	w.msg(i.Msg)
}

func (w *writer) held(h api.Held) {
	w.nums(h.Tag, h.Conn, h.Sub)
	w.item(h.Item)
}

func (w *writer) bind(b api.Bind) {
	w.text(b.Queue)
	w.text(b.Pattern)
}

func (w *writer) sub(s api.Sub) {
	w.nums(s.Conn, s.Sub)
	w.text(s.Queue)
	w.nums(s.Window)
	w.truth(s.Auto)
}

func (w *writer) client(c api.Client) {
	w.text(c.Name)
	w.nums(len(c.Packets))
	w.nums(c.Packets...)
}
