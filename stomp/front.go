package stomp

import (
	"slices"
	"strconv"

	"trivet/api"
	"trivet/sframe"
)

// word is given up by who meets a broken rule; the connection ends with it.
type word string

// insist gives up what is heard, with a word, if something isn't so.
func insist(so bool, why word) {
	if !so {
		panic(why)
	}
}

// front is where a connection is, in memory of its own, the frame that is heard, and what is wanted by now.
type front struct {
	api.Stomp
	conn  int
	frame api.Sframe
	acts  []api.Act
}

// frontOf: a front that begins where a connection is.
func frontOf(s api.Stomp, conn int) *front {
	s.Subs = slices.Clone(s.Subs)
	s.Given = slices.Clone(s.Given)
	s.Txs = slices.Clone(s.Txs)
	for at := range s.Txs {
		s.Txs[at].Ops = ownOps(s.Txs[at].Ops)
	}
	return &front{Stomp: s, conn: conn}
}

// ownOps: operations in memory of their own.
func ownOps(list []api.Op) []api.Op {
	list = slices.Clone(list)
	for at := range list {
		list[at].Msg.Props = slices.Clone(list[at].Msg.Props)
	}
	return list
}

// guarded does something; of a rule that it breaks is said by which word the connection ends.
func (f *front) guarded(do func()) {
	defer func() {
		switch why := recover().(type) {
		case nil:
		case word:
			f.say("ERROR", "message", string(why))
			f.end()
		default:
			// No broken rule: to end the connection would hide a fault of the program.
			panic(why)
		}
	}()
	do()
}

// end: the connection ends, and nothing more is heard.
func (f *front) end() {
	f.Down, f.Rest = true, ""
	f.acts = append(f.acts, api.Act{Kind: api.ActEnd})
}

// do: operations are wanted, as one; the receipt is said when they are done.
func (f *front) do(ops ...api.Op) {
	f.acts = append(f.acts, api.Act{Kind: api.ActDo, Ops: ops, Text: f.text("receipt")})
}

// say: a frame without a body goes out, with headers of these names and texts, in turns.
func (f *front) say(command string, pairs ...string) {
	b, err := encode(command, "", pairs...)
	// Only what is told of an act that no front wanted can have a text that no frame has room for: then there is nothing to say.
	if err == api.OK {
		f.acts = append(f.acts, api.Act{Kind: api.ActSay, Bytes: string(b)})
	}
}

// sayReceipt: that what a frame asked for is done is said, if the client wants to know it.
func (f *front) sayReceipt(receipt string) {
	if receipt != "" {
		f.say("RECEIPT", "receipt-id", receipt)
	}
}

// told: what became of an act that was wanted.
func (f *front) told(a api.Act, e api.Errno) {
	insist(e == api.OK, word("refused "+strconv.Itoa(int(e))))
	f.sayReceipt(a.Text)
}

// encode: the bytes of a frame with headers of these names and texts, in turns; ErrArg.
func encode(command, body string, pairs ...string) ([]byte, api.Errno) {
	f := api.Sframe{Command: command, Body: body}
	for pair := range slices.Chunk(pairs, 2) {
		f.Headers = append(f.Headers, api.Header{Name: pair[0], Text: pair[1]})
	}
	return sframe.Encode(f)
}
