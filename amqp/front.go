package amqp

import (
	"slices"

	"trivet/aframe"
	"trivet/api"
	"trivet/table"
)

// What Want tells of the content that is due.
const (
	noContent = iota - 1
	headerDue
	bodyDue
)

// front is where a connection is, in memory of its own, and what is wanted of it by now.
type front struct {
	api.Amqp
	conn int
	acts []api.Act
}

// frontOf: a front that begins where a connection is.
func frontOf(s api.Amqp, conn int) *front {
	s.Subs = slices.Clone(s.Subs)
	s.Given = slices.Clone(s.Given)
	s.Own = slices.Clone(s.Own)
	s.Ops = slices.Clone(s.Ops)
	for at := range s.Ops {
		ownProps(&s.Ops[at])
	}
	ownProps(&s.Pub)
	return &front{Amqp: s, conn: conn}
}

// ownProps gives an operation's properties memory of their own.
func ownProps(o *api.Op) {
	o.Msg.Props = slices.Clone(o.Msg.Props)
}

// guarded does something; of a rule that it breaks is said by which code the connection, or the channel, ends.
func (f *front) guarded(do func()) {
	defer func() {
		switch code := recover().(type) {
		case nil:
		case connectionCode:
			f.say(0, connectionClose, []int{int(code), 0, 0}, "")
			f.end()
		case channelCode:
			f.answer(channelClose, []int{int(code), 0, 0}, "")
			f.shut()
		default:
			// No broken rule: to end the connection would hide a fault of the program.
			panic(code)
		}
	}()
	do()
}

// end: the connection ends, and nothing more is heard.
func (f *front) end() {
	f.Stage, f.Rest = api.AmDown, ""
	f.acts = append(f.acts, api.Act{Kind: api.ActEnd})
}

// shut: channel 1 is as it was ahead of its opening; what it held is put back.
func (f *front) shut() {
	s := New()
	s.Rest, s.Stage, s.Count, s.Own = f.Rest, f.Stage, f.Count, f.Own
	f.Amqp = s
	f.do(0, "", api.Op{Kind: api.OpDetach, Conn: f.conn})
}

// do: operations are wanted, as one.
func (f *front) do(ref int, text string, ops ...api.Op) {
	f.acts = append(f.acts, api.Act{Kind: api.ActDo, Ops: ops, Ref: ref, Text: text})
}

// say: a method goes out on a channel.
func (f *front) say(channel, method int, nums []int, texts ...string) {
	b, err := methodFrame(channel, method, nums, texts...)
	// Only what is told of an act that no front wanted can be such that no method has it: then there is nothing to say.
	if err == api.OK {
		f.sayBytes(string(b))
	}
}

// answer: a method goes out on channel 1.
func (f *front) answer(method int, nums []int, texts ...string) {
	f.say(1, method, nums, texts...)
}

// sayBytes: bytes go out.
func (f *front) sayBytes(s string) {
	f.acts = append(f.acts, api.Act{Kind: api.ActSay, Bytes: s})
}

// methodFrame: the bytes of a frame with a method; ErrArg.
func methodFrame(channel, method int, nums []int, texts ...string) ([]byte, api.Errno) {
	payload, err := table.Encode(api.Method{Class: method / perClass, Id: method % perClass, Nums: nums, Texts: texts})
	if err != api.OK {
		return nil, err
	}
	return aframe.Encode(api.Frame{Type: aframe.Method, Channel: channel, Payload: string(payload)})
}
