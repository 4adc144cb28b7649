package stomp

import (
	"slices"

	"trivet/api"
	"trivet/sframe"
)

// maxTrans: transactions that a connection may have at a time.
const maxTrans = 4

// inTransactionOrNot: an operation is wanted at once, or when the transaction that the frame names is committed.
func (f *front) inTransactionOrNot(o api.Op) {
	if _, is := sframe.Get(f.frame, "transaction"); !is {
		f.do(o)
		return
	}
	at := f.transaction()
	insist(at >= 0 && len(f.Txs[at].Ops) < api.MaxTx, "transaction")
	f.Txs[at].Ops = append(f.Txs[at].Ops, o)
	f.done()
}

// transaction: the place of the transaction that the frame names; -1: there is none.
func (f *front) transaction() int {
	name := f.text("transaction")
	return slices.IndexFunc(f.Txs, func(x api.Trans) bool { return x.Name == name })
}

// begin: a transaction begins.
func (f *front) begin() {
	name := f.must("transaction")
	insist(len(name) <= maxText && len(f.Txs) < maxTrans && f.transaction() < 0, "transaction")
	f.Txs = append(f.Txs, api.Trans{Name: name})
	f.done()
}

// commit: what a transaction has is to be done.
func (f *front) commit() {
	ops := f.takeTransaction()
	if len(ops) == 0 {
		f.done()
		return
	}
	f.do(ops...)
}

// abort: what a transaction has is never done.
func (f *front) abort() {
	f.takeTransaction()
	f.done()
}

// takeTransaction: the operations of the transaction that the frame names, which is there no more.
func (f *front) takeTransaction() []api.Op {
	f.must("transaction")
	at := f.transaction()
	insist(at >= 0, "transaction")
	ops := f.Txs[at].Ops
	f.Txs = slices.Delete(f.Txs, at, at+1)
	return ops
}
