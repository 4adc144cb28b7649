package stomp

import (
	"slices"
	"strconv"

	"trivet/api"
	"trivet/prop"
	"trivet/topic"
)

// give: the bytes of what is handed out; none, if nobody here waits for it.
func (f *front) give(o api.Out) []byte {
	at := slices.IndexFunc(f.Subs, func(n api.Named) bool { return n.Sub == o.Sub })
	if f.Down || !f.Up || at < 0 {
		return nil
	}
	b, err := message(f.Subs[at], o, strconv.Itoa(f.Num+1))
	if err != api.OK {
		return nil
	}
	f.Num++
	if o.Tag != 0 {
		f.Given = append(f.Given, api.Given{Num: f.Num, Sub: o.Sub, Queue: o.Queue, Tag: o.Tag})
	}
	return b
}

// message: the frame by which something goes out to a subscription, by a number; ErrMsg, ErrArg.
func message(n api.Named, o api.Out, num string) ([]byte, api.Errno) {
	m := o.Msg
	place := topic.Place(n.Queue == m.Topic, m.Topic)
	pairs := []string{"subscription", n.Name, "message-id", num, "destination", place}
	if o.Tag != 0 {
		pairs = append(pairs, "ack", num)
	}
	if o.Again {
		pairs = append(pairs, "redelivered", "true")
	}
	if m.Durable {
		pairs = append(pairs, "persistent", "true")
	}
	for _, p := range m.Props {
		text, err := prop.Text(p.Value)
		if err != api.OK {
			return nil, err
		}
		pairs = append(pairs, propMark+p.Name, text)
	}
	pairs = append(pairs, "content-length", strconv.Itoa(len(m.Body)))
	return encode("MESSAGE", m.Body, pairs...)
}
