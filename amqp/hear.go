package amqp

import (
	"strings"

	"trivet/aframe"
	"trivet/api"
	"trivet/table"
)

// greeting is what a connection begins with; who begins otherwise is told it.
const greeting = "AMQP\x00\x00\x09\x01"

// next hears what Rest begins with; false: there isn't enough of it.
func (f *front) next() bool {
	switch f.Stage {
	case api.AmDown:
		f.Rest = ""
		return false
	case api.AmHeader:
		return f.greet()
	}
	frame, size, err := aframe.Next(f.Rest)
	if err == api.ErrMore {
		return false
	}
	f.Rest = f.Rest[size:]
	f.guarded(func() {
		insist(err == api.OK, frameError)
		f.hear(frame)
	})
	return true
}

// greet hears the first bytes of all; false: it can't be told yet whether they are the greeting.
func (f *front) greet() bool {
	rest, is := strings.CutPrefix(f.Rest, greeting)
	switch {
	case is:
		f.Rest, f.Stage = rest, api.AmStart
		f.say(0, connectionStart, []int{0, 9}, "PLAIN", "en_US")
	case strings.HasPrefix(greeting, f.Rest):
		return false
	default:
		f.sayBytes(greeting)
		f.end()
	}
	return true
}

// hear hears a frame.
func (f *front) hear(frame api.Frame) {
	switch frame.Type {
	case aframe.Beat:
		insist(frame.Channel == 0, frameError)
	case aframe.Method:
		f.hearMethod(frame)
	default:
		insist(frame.Channel == 1 && f.Channel && f.Want != noContent, unexpectedFrame)
		f.hearContent(frame)
	}
}

// hearMethod hears a method.
func (f *front) hearMethod(frame api.Frame) {
	m, err := table.Decode(frame.Payload)
	insist(err == api.OK, syntaxError)
	insist(f.Want == noContent, unexpectedFrame)
	if frame.Channel == 0 {
		f.onConnection(methodOf(m))
		return
	}
	insist(f.Stage == api.AmUp && frame.Channel == 1, channelError)
	if f.Channel {
		f.onChannel(m)
		return
	}
	f.onShutChannel(methodOf(m))
}

// onConnection hears a method on channel 0.
func (f *front) onConnection(method int) {
	switch {
	case method == connectionStartOk && f.Stage == api.AmStart:
		f.Stage = api.AmTune
		f.say(0, connectionTune, []int{1, api.MaxFrame, 0})
	case method == connectionTuneOk && f.Stage == api.AmTune:
		f.Stage = api.AmOpen
	case method == connectionOpen && f.Stage == api.AmOpen:
		f.Stage = api.AmUp
		f.say(0, connectionOpenOk, nil, "")
	case method == connectionClose:
		f.say(0, connectionCloseOk, nil)
		f.end()
	default:
		panic(commandInvalid)
	}
}

// onShutChannel hears a method on channel 1, which isn't open.
func (f *front) onShutChannel(method int) {
	if method == channelCloseOk {
		// It answers the close that was said when the channel ended.
		return
	}
	insist(method == channelOpen, channelError)
	f.Channel = true
	f.answer(channelOpenOk, nil, "")
}
