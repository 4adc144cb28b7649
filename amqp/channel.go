package amqp

import (
	"slices"
	"strconv"

	"trivet/api"
	"trivet/prop"
)

// exchange is the one that leads topics to queues; the only other one has no name.
const exchange = "amq.topic"

// Bits of methods.
const (
	declareDurable   = 2
	declareExclusive = 4
	consumeNoAck     = 2
	getNoAck         = 1
	multiple         = 1 // of ack and nack
	rejectRequeue    = 1
	nackRequeue      = 2
)

// onChannel hears a method on channel 1, which is open.
func (f *front) onChannel(m api.Method) {
	switch methodOf(m) {
	case channelClose:
		f.answer(channelCloseOk, nil)
		f.shut()
	case queueDeclare:
		f.declare(m)
	case queueBind:
		f.bind(m)
	case basicQos:
		f.qos(m.Nums[1])
	case basicConsume:
		f.consume(m)
	case basicPublish:
		f.publish(m)
	case basicGet:
		f.get(m)
	case basicAck:
		f.ack(m.Nums[0], has(m, multiple))
	case basicReject:
		f.nack(m.Nums[0], has(m, rejectRequeue))
	case basicNack:
		insist(!has(m, multiple), notImplemented)
		f.nack(m.Nums[0], has(m, nackRequeue))
	case confirmSelect:
		f.selectConfirm()
	case txSelect:
		f.selectTx()
	case txCommit:
		f.commit()
	case txRollback:
		f.rollback()
	default:
		panic(commandInvalid)
	}
}

// bitsOf: a method's bits: where it has some, they are its second number.
func bitsOf(m api.Method) int {
	return m.Nums[1]
}

// has: whether a bit of a method is set.
func has(m api.Method, bit int) bool {
	return bitsOf(m)&bit != 0
}

// simple insists that a method has none but these bits, and no properties.
func simple(m api.Method, bits int) {
	insist(bitsOf(m)&^bits == 0 && len(m.Props) == 0, notImplemented)
}

// declare: a queue is to be there.
func (f *front) declare(m api.Method) {
	simple(m, declareDurable|declareExclusive)
	name := m.Texts[0]
	f.do(queueDeclare, name, api.Op{
		Kind:    api.OpDeclare,
		Queue:   name,
		Durable: has(m, declareDurable),
		Auto:    has(m, declareExclusive),
		N:       api.MaxDepth,
	})
}

// bind: a pattern is to lead to a queue.
func (f *front) bind(m api.Method) {
	simple(m, 0)
	insist(m.Texts[1] == exchange, notFound)
	f.do(queueBind, "", api.Op{Kind: api.OpBind, Queue: m.Texts[0], Text: m.Texts[2]})
}

// qos: how many the subscriptions behind it may hold.
func (f *front) qos(window int) {
	if window == 0 || window > api.MaxWindow {
		window = api.MaxWindow
	}
	f.Window = window
	f.answer(basicQosOk, nil)
}

// consume: a subscription is to be there.
func (f *front) consume(m api.Method) {
	simple(m, consumeNoAck)
	queue, tag := m.Texts[0], m.Texts[1]
	if tag == "" {
		tag = "c" + strconv.Itoa(f.Count+1)
	}
	insist(!slices.ContainsFunc(f.Subs, func(n api.Named) bool { return n.Name == tag }), notAllowed)
	f.Count++
	auto := has(m, consumeNoAck)
	f.Subs = append(f.Subs, api.Named{Name: tag, Sub: f.Count, Queue: queue, Auto: auto})
	f.do(basicConsume, tag, api.Op{
		Kind:  api.OpSubscribe,
		Conn:  f.conn,
		Sub:   f.Count,
		Queue: queue,
		N:     f.Window,
		Auto:  auto,
	})
}

// publish: a message's content is due.
func (f *front) publish(m api.Method) {
	simple(m, 0)
	place, key := m.Texts[0], m.Texts[1]
	insist(place == exchange || place == "" && prop.Name(key), notFound)
	f.Want, f.Pub = headerDue, api.Op{Kind: api.OpPublish, Msg: api.Msg{Topic: key}}
	if place == "" {
		f.Pub.Queue = key
	}
}

// get: one message is to be handed out.
func (f *front) get(m api.Method) {
	simple(m, getNoAck)
	f.do(basicGet, "", api.Op{Kind: api.OpGet, Conn: f.conn, Queue: m.Texts[0], Auto: has(m, getNoAck)})
}

// selectConfirm: of each publish is said what became of it.
func (f *front) selectConfirm() {
	insist(!f.Tx, notNow)
	f.Confirm = true
	f.answer(confirmSelectOk, nil)
}

// selectTx: publishes and what settles wait for a commit.
func (f *front) selectTx() {
	insist(!f.Confirm, notNow)
	f.Tx = true
	f.answer(txSelectOk, nil)
}

// commit: what the transaction has is to be done.
func (f *front) commit() {
	insist(f.Tx, notNow)
	if len(f.Ops) == 0 {
		f.answer(txCommitOk, nil)
		return
	}
	f.do(txCommit, "", f.Ops...)
	f.Ops = nil
	f.dropMarked()
}

// rollback: the transaction has nothing any more.
func (f *front) rollback() {
	insist(f.Tx, notNow)
	f.Ops = nil
	for at := range f.Given {
		f.Given[at].Mark = false
	}
	f.answer(txRollbackOk, nil)
}
