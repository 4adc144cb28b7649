package amqp

import (
	"slices"
	"strconv"

	"trivet/api"
)

// told: what became of an act that was wanted.
func (f *front) told(a api.Act, e api.Errno) {
	switch {
	case a.Ref == basicGet && e == api.ErrNone:
		f.answer(basicGetEmpty, nil, "")
	case a.Ref == basicPublish && f.Confirm && isConfirmed(e):
		f.confirm(a.Text, e)
	default:
		insist(e == api.OK, refusal(e))
		f.done(a)
	}
}

// isConfirmed: whether this is said of a publish by ack or nack; by any other error the channel ends.
func isConfirmed(e api.Errno) bool {
	return e == api.OK || e == api.ErrDeep || e == api.ErrFull
}

// confirm: what became of a publish, whose number is the act's text.
func (f *front) confirm(text string, e api.Errno) {
	// A text that is no number no front wanted: it is said as 0, or not at all.
	seq, _ := strconv.Atoi(text)
	if e == api.OK {
		f.answer(basicAck, []int{seq, 0})
		return
	}
	f.answer(basicNack, []int{seq, 0})
}

// done: an act that was wanted was done.
func (f *front) done(a api.Act) {
	switch a.Ref {
	case queueDeclare:
		if slices.ContainsFunc(a.Ops, func(o api.Op) bool { return o.Auto }) && !slices.Contains(f.Own, a.Text) {
			f.Own = append(f.Own, a.Text)
		}
		f.answer(queueDeclareOk, []int{0, 0}, a.Text)
	case queueBind:
		f.answer(queueBindOk, nil)
	case basicConsume:
		f.answer(basicConsumeOk, nil, a.Text)
	case txCommit:
		f.answer(txCommitOk, nil)
	}
}
