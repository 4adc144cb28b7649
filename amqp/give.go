package amqp

import (
	"slices"

	"trivet/aframe"
	"trivet/api"
)

// give: the bytes of what is handed out; none, if nobody here waits for it.
func (f *front) give(o api.Out) []byte {
	if f.Stage != api.AmUp || !f.Channel {
		return nil
	}
	method, err := f.giving(o, f.Num+1)
	if err != api.OK {
		return nil
	}
	content, err := contentFrames(o.Msg)
	if err != api.OK {
		return nil
	}
	f.Num++
	if o.Tag != 0 {
		f.Given = append(f.Given, api.Given{Num: f.Num, Sub: o.Sub, Queue: o.Queue, Tag: o.Tag})
	}
	return append(method, content...)
}

// giving: the frame with the method by which something goes out, by a number; ErrNone, ErrArg.
func (f *front) giving(o api.Out, num int) ([]byte, api.Errno) {
	nums := []int{num, 0}
	if o.Again {
		nums[1] = 1
	}
	if o.Sub == 0 {
		return methodFrame(1, basicGetOk, append(nums, 0), exchange, o.Msg.Topic)
	}
	at := slices.IndexFunc(f.Subs, func(n api.Named) bool { return n.Sub == o.Sub })
	if at < 0 {
		return nil, api.ErrNone
	}
	return methodFrame(1, basicDeliver, nums, f.Subs[at].Name, exchange, o.Msg.Topic)
}

// contentFrames: the frames with a message's header, and with its body, if it has bytes; ErrMsg, ErrArg.
func contentFrames(m api.Msg) ([]byte, api.Errno) {
	head, err := aframe.Head(len(m.Body), m.Props, m.Durable)
	if err != api.OK {
		return nil, err
	}
	b, err := aframe.Encode(api.Frame{Type: aframe.Header, Channel: 1, Payload: string(head)})
	if err != api.OK || m.Body == "" {
		return b, err
	}
	body, err := aframe.Encode(api.Frame{Type: aframe.Body, Channel: 1, Payload: m.Body})
	return append(b, body...), err
}
