package mpacket

import "trivet/api"

// size: how many bytes a packet has at least, of its texts and lists alone: what is too much needn't be written to be refused.
func size(p api.Packet) int {
	n := len(p.Name) + len(p.Text) + len(p.Topic) + len(p.Codes)
	for _, name := range p.Names {
		n += 2 + len(name)
	}
	return n
}

// write: the bytes of a packet, if it can be one; else bytes of another one, or of none.
func write(p api.Packet) []byte {
	own := writeOwn(p)
	b := putLength([]byte{byte(p.Kind<<4 | p.Flags)}, len(own))
	return append(b, own...)
}

// writeOwn: the bytes behind those that tell how many they are.
func writeOwn(p api.Packet) []byte {
	switch p.Kind {
	case Connect:
		return writeConnect(p)
	case Connack:
		return []byte{byte(p.Keep), byte(p.Code)}
	case Publish:
		b := putText(nil, p.Topic)
		if qosOf(p.Flags) > 0 {
			b = putNumber(b, p.Id)
		}
		return append(b, p.Text...)
	case Puback, Pubrec, Pubrel, Pubcomp, Unsuback:
		return putNumber(nil, p.Id)
	case Subscribe, Suback, Unsubscribe:
		return writeEntries(p)
	}
	return nil
}

// writeConnect: what a Connect has.
func writeConnect(p api.Packet) []byte {
	b := putText(nil, protocol)
	b = append(b, level, byte(p.Code))
	b = putNumber(b, p.Keep)
	b = putText(b, p.Name)
	if p.Will {
		b = putText(b, p.Topic)
		b = putText(b, p.Text)
	}
	return b
}

// writeEntries: what a Subscribe, a Suback or an Unsubscribe has: names and codes in turns, as far as there are any.
func writeEntries(p api.Packet) []byte {
	b := putNumber(nil, p.Id)
	for at := range max(len(p.Names), len(p.Codes)) {
		if at < len(p.Names) {
			b = putText(b, p.Names[at])
		}
		if at < len(p.Codes) {
			b = append(b, byte(p.Codes[at]))
		}
	}
	return b
}

// putLength: bytes with a number behind them, as it tells how many follow.
func putLength(b []byte, n int) []byte {
	for ; n > 127; n >>= 7 {
		b = append(b, byte(n|128))
	}
	return append(b, byte(n))
}

// putNumber: bytes with a number of two bytes behind them.
func putNumber(b []byte, n int) []byte {
	return append(b, byte(n>>8), byte(n))
}

// putText: bytes with a text behind them, and how many bytes it has ahead of it.
func putText(b []byte, s string) []byte {
	return append(putNumber(b, len(s)), s...)
}
