package stomp

import (
	"slices"
	"strings"

	"trivet/api"
	"trivet/sframe"
)

// version is the one of STOMP that is spoken here.
const version = "1.2"

// maxText: bytes of a receipt, of a subscription's id, and of a transaction's name.
const maxText = 256

// next hears the frame that Rest begins with; false: it isn't all there.
func (f *front) next() bool {
	if f.Down {
		f.Rest = ""
		return false
	}
	frame, size, err := sframe.Next(f.Rest)
	f.Rest = f.Rest[size:]
	if err == api.ErrMore {
		return false
	}
	f.guarded(func() {
		insist(err == api.OK, "frame")
		f.frame = frame
		f.hear()
	})
	return true
}

// hear hears a frame.
func (f *front) hear() {
	command := f.frame.Command
	begins := command == "CONNECT" || command == "STOMP"
	insist(begins != f.Up, word(command))
	insist(len(f.text("receipt")) <= maxText, "receipt")
	switch command {
	case "CONNECT", "STOMP":
		f.connect()
	case "SEND":
		f.send()
	case "SUBSCRIBE":
		f.subscribe()
	case "UNSUBSCRIBE":
		f.unsubscribe()
	case "ACK":
		f.settle(api.Op{Kind: api.OpAck})
	case "NACK":
		f.settle(api.Op{Kind: api.OpNack, Auto: true})
	case "BEGIN":
		f.begin()
	case "COMMIT":
		f.commit()
	case "ABORT":
		f.abort()
	case "DISCONNECT":
		f.done()
		f.end()
	default:
		panic(word(command))
	}
}

// text: the text of a header of the frame; nothing, if it isn't there.
func (f *front) text(name string) string {
	text, _ := sframe.Get(f.frame, name)
	return text
}

// must: the text of a header that must be there.
func (f *front) must(name string) string {
	text := f.text(name)
	insist(text != "", word(name))
	return text
}

// done: what the frame asked for is done.
func (f *front) done() {
	f.sayReceipt(f.text("receipt"))
}

// connect: the client says which versions it speaks.
func (f *front) connect() {
	insist(slices.Contains(strings.Split(f.text("accept-version"), ","), version), "version")
	f.Up = true
	f.say("CONNECTED", "version", version, "heart-beat", "0,0")
}
