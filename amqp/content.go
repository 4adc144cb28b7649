package amqp

import (
	"strconv"

	"trivet/aframe"
	"trivet/api"
)

// hearContent hears a part of the content that is due.
func (f *front) hearContent(frame api.Frame) {
	if f.Want == headerDue {
		insist(frame.Type == aframe.Header, unexpectedFrame)
		f.hearHead(frame.Payload)
	} else {
		insist(frame.Type == aframe.Body, unexpectedFrame)
		f.hearBody(frame.Payload)
	}
	if len(f.Pub.Msg.Body) == f.Size {
		f.published()
	}
}

// hearHead hears the content's header.
func (f *front) hearHead(s string) {
	size, list, durable, err := aframe.ReadHead(s)
	insist(err != api.ErrForm, syntaxError)
	insist(err == api.OK, frameError)
	f.Pub.Msg.Props, f.Pub.Msg.Durable = list, durable
	f.Want, f.Size = bodyDue, size
}

// hearBody hears a piece of the content's body.
func (f *front) hearBody(s string) {
	body := f.Pub.Msg.Body + s
	insist(len(body) <= f.Size, unexpectedFrame)
	f.Pub.Msg.Body = body
}

// published: a publish's content is all there.
func (f *front) published() {
	pub := f.Pub
	f.Want, f.Size, f.Pub = noContent, 0, api.Op{}
	if f.Tx {
		insist(len(f.Ops) < api.MaxTx, noRoom)
		f.Ops = append(f.Ops, pub)
		return
	}
	if f.Confirm {
		f.Seq++
	}
	f.do(basicPublish, strconv.Itoa(f.Seq), pub)
}
