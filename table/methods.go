package table

// methods are all that the broker speaks.
var methods = [...]struct {
	class, id int
	form      string
}{
	{10, 10, "ooTSS"},  // connection.start
	{10, 11, "TsSs"},   // connection.start-ok
	{10, 30, "hlh"},    // connection.tune
	{10, 31, "hlh"},    // connection.tune-ok
	{10, 40, "ssb"},    // connection.open
	{10, 41, "s"},      // connection.open-ok
	{10, 50, "hshh"},   // connection.close
	{10, 51, ""},       // connection.close-ok
	{20, 10, "s"},      // channel.open
	{20, 11, "S"},      // channel.open-ok
	{20, 40, "hshh"},   // channel.close
	{20, 41, ""},       // channel.close-ok
	{50, 10, "hsbT"},   // queue.declare
	{50, 11, "sll"},    // queue.declare-ok
	{50, 20, "hsssbT"}, // queue.bind
	{50, 21, ""},       // queue.bind-ok
	{60, 10, "lhb"},    // basic.qos
	{60, 11, ""},       // basic.qos-ok
	{60, 20, "hssbT"},  // basic.consume
	{60, 21, "s"},      // basic.consume-ok
	{60, 40, "hssb"},   // basic.publish
	{60, 60, "sLbss"},  // basic.deliver
	{60, 70, "hsb"},    // basic.get
	{60, 71, "Lbssl"},  // basic.get-ok
	{60, 72, "s"},      // basic.get-empty
	{60, 80, "Lb"},     // basic.ack
	{60, 90, "Lb"},     // basic.reject
	{60, 120, "Lb"},    // basic.nack
	{85, 10, "b"},      // confirm.select
	{85, 11, ""},       // confirm.select-ok
	{90, 10, ""},       // tx.select
	{90, 11, ""},       // tx.select-ok
	{90, 20, ""},       // tx.commit
	{90, 21, ""},       // tx.commit-ok
	{90, 30, ""},       // tx.rollback
	{90, 31, ""},       // tx.rollback-ok
}

// width: how many bytes a form's number of this letter has.
func width(letter byte) int {
	switch letter {
	case 'h':
		return 2
	case 'l':
		return 4
	case 'L':
		return 8
	}
	// o, and b: a group of bits is never more than one byte here.
	return 1
}
