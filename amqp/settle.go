package amqp

import (
	"slices"

	"trivet/api"
)

// ack: what was given by a number is done with; all: what was given up to it, or, of 0, at all.
func (f *front) ack(num int, all bool) {
	due := func(g api.Given) bool { return !g.Mark && (g.Num == num || all && (g.Num < num || num == 0)) }
	insist(f.gave(due) || all && num == 0, notNow)
	f.settle(due, api.Op{Kind: api.OpAck})
}

// nack: what was given by a number is refused, and put back or not.
func (f *front) nack(num int, again bool) {
	due := func(g api.Given) bool { return !g.Mark && g.Num == num }
	insist(f.gave(due), notNow)
	f.settle(due, api.Op{Kind: api.OpNack, Auto: again})
}

// gave: whether something that is due was given.
func (f *front) gave(due func(api.Given) bool) bool {
	return slices.ContainsFunc(f.Given, due)
}

// settle: an operation like this one of each that was given and is due: at once, or in the transaction.
func (f *front) settle(due func(api.Given) bool, like api.Op) {
	var ops []api.Op
	for at, g := range f.Given {
		if due(g) {
			o := like
			o.Conn, o.Queue, o.N = f.conn, g.Queue, g.Tag
			ops = append(ops, o)
			f.Given[at].Mark = true
		}
	}
	if f.Tx {
		insist(len(f.Ops)+len(ops) <= api.MaxTx, noRoom)
		f.Ops = append(f.Ops, ops...)
		return
	}
	f.dropMarked()
	for part := range slices.Chunk(ops, api.MaxTx) {
		f.do(0, "", part...)
	}
}

// dropMarked: what is marked is given no more.
func (f *front) dropMarked() {
	f.Given = slices.DeleteFunc(f.Given, func(g api.Given) bool { return g.Mark })
}
