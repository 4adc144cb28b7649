package amqp

import "trivet/api"

// connectionCode is given up by who meets a broken rule that ends the connection.
type connectionCode int

// channelCode is given up by who meets a broken rule that ends the channel.
type channelCode int

const (
	frameError      connectionCode = 501
	syntaxError     connectionCode = 502
	commandInvalid  connectionCode = 503
	channelError    connectionCode = 504
	unexpectedFrame connectionCode = 505
)

const (
	notFound       channelCode = 404
	notNow         channelCode = 406
	noRoom         channelCode = 506
	notAllowed     channelCode = 530
	notImplemented channelCode = 540
)

// insist gives up what is heard, with a code, if something isn't so.
func insist[C connectionCode | channelCode](so bool, code C) {
	if !so {
		panic(code)
	}
}

// refusal: the code with which an operation's error ends the channel.
func refusal(e api.Errno) channelCode {
	switch e {
	case api.ErrNone:
		return notFound
	case api.ErrDeep, api.ErrRoom, api.ErrFull, api.ErrDown:
		return noRoom
	}
	return notNow
}

// perClass times the class and the method's number is the number that a method has here: a Ref of what it wants is that, too.
const perClass = 256

const (
	connectionStart   = 10*perClass + 10
	connectionStartOk = 10*perClass + 11
	connectionTune    = 10*perClass + 30
	connectionTuneOk  = 10*perClass + 31
	connectionOpen    = 10*perClass + 40
	connectionOpenOk  = 10*perClass + 41
	connectionClose   = 10*perClass + 50
	connectionCloseOk = 10*perClass + 51

	channelOpen    = 20*perClass + 10
	channelOpenOk  = 20*perClass + 11
	channelClose   = 20*perClass + 40
	channelCloseOk = 20*perClass + 41

	queueDeclare   = 50*perClass + 10
	queueDeclareOk = 50*perClass + 11
	queueBind      = 50*perClass + 20
	queueBindOk    = 50*perClass + 21

	basicQos       = 60*perClass + 10
	basicQosOk     = 60*perClass + 11
	basicConsume   = 60*perClass + 20
	basicConsumeOk = 60*perClass + 21
	basicPublish   = 60*perClass + 40
	basicDeliver   = 60*perClass + 60
	basicGet       = 60*perClass + 70
	basicGetOk     = 60*perClass + 71
	basicGetEmpty  = 60*perClass + 72
	basicAck       = 60*perClass + 80
	basicReject    = 60*perClass + 90
	basicNack      = 60*perClass + 120

	confirmSelect   = 85*perClass + 10
	confirmSelectOk = 85*perClass + 11

	txSelect     = 90*perClass + 10
	txSelectOk   = 90*perClass + 11
	txCommit     = 90*perClass + 20
	txCommitOk   = 90*perClass + 21
	txRollback   = 90*perClass + 30
	txRollbackOk = 90*perClass + 31
)

// methodOf: the number that a method has here.
func methodOf(m api.Method) int {
	return m.Class*perClass + m.Id
}
