package stomp

import (
	"slices"
	"strconv"

	"trivet/api"
)

// settle: what was given by a number is acknowledged, or refused, by an operation like this one.
func (f *front) settle(o api.Op) {
	id := f.must("id")
	at := slices.IndexFunc(f.Given, func(g api.Given) bool { return strconv.Itoa(g.Num) == id })
	insist(at >= 0, "id")
	g := f.Given[at]
	// Ahead of all that may end the connection still: it isn't settled a second time in any case.
	f.Given = slices.Delete(f.Given, at, at+1)
	o.Conn, o.Queue, o.N = f.conn, g.Queue, g.Tag
	f.inTransactionOrNot(o)
}
