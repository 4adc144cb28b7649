package stomp

import (
	"strings"

	"trivet/api"
	"trivet/prop"
	"trivet/topic"
)

// propMark: what the names of headers that are properties begin with.
const propMark = "p-"

// send: a message is to be published.
func (f *front) send() {
	queue, name, err := topic.Find(f.must("destination"))
	// A queue's name is a topic, too.
	insist(err == api.OK && topic.Good(name), "destination")
	o := api.Op{Kind: api.OpPublish, Msg: api.Msg{
		Topic:   name,
		Body:    f.frame.Body,
		Props:   f.props(),
		Durable: f.text("persistent") == "true",
	}}
	if queue {
		o.Queue = name
	}
	f.inTransactionOrNot(o)
}

// props: the properties that the frame's headers tell.
func (f *front) props() []api.Prop {
	var list []api.Prop
	for _, h := range f.frame.Headers {
		name, is := strings.CutPrefix(h.Name, propMark)
		if !is {
			continue
		}
		if _, there := prop.Get(list, name); there {
			continue
		}
		v, err := prop.Parse(h.Text)
		insist(err == api.OK, "property")
		list, err = prop.Set(list, api.Prop{Name: name, Value: v})
		insist(err == api.OK, "property")
	}
	return list
}
