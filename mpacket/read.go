package mpacket

import (
	"slices"
	"strings"

	"trivet/api"
)

// reader is what is left of some bytes, and what is told if they are too few; what can't be gives the reading up.
type reader struct {
	rest    string
	missing api.Errno
}

// packet: the packet of a kind, with these flags, that all the bytes are.
func (r *reader) packet(kind, flags int) api.Packet {
	p := api.Packet{Kind: kind, Flags: flags}
	switch kind {
	case Connect:
		r.connect(&p)
	case Connack:
		p.Keep, p.Code = r.upTo(1), r.upTo(maxAccepted)
	case Publish:
		r.publish(&p)
	case Puback, Pubrec, Pubrel, Pubcomp, Unsuback:
		p.Id = r.id()
	case Subscribe, Suback, Unsubscribe:
		r.entries(&p)
	}
	insist(r.rest == "", api.ErrProto)
	return p
}

// connect reads what a Connect has.
func (r *reader) connect(p *api.Packet) {
	insist(r.text() == protocol && r.octet() == level, api.ErrProto)
	p.Code = r.octet()
	p.Clean, p.Will = p.Code&cleanBit != 0, p.Code&willBit != 0
	insist(p.Code&neverBits == 0 && p.Code&willQos != willQos && (p.Will || p.Code&ofWill == 0), api.ErrProto)
	p.Keep, p.Name = r.number(), r.text()
	if p.Will {
		p.Topic, p.Text = r.text(), r.text()
		insist(len(p.Text) <= api.MaxBody, api.ErrProto)
	}
}

// publish reads what a Publish has.
func (r *reader) publish(p *api.Packet) {
	p.Topic = r.text()
	if qosOf(p.Flags) > 0 {
		p.Id = r.id()
	}
	insist(len(r.rest) <= api.MaxBody, api.ErrProto)
	p.Text = strings.Clone(r.take(len(r.rest)))
}

// entries reads what a Subscribe, a Suback or an Unsubscribe has.
func (r *reader) entries(p *api.Packet) {
	p.Id = r.id()
	count := 0
	for ; r.rest != "" && count < maxEntries; count++ {
		if p.Kind != Suback {
			p.Names = append(p.Names, r.text())
		}
		if p.Kind != Unsubscribe {
			p.Codes = append(p.Codes, r.octet())
		}
	}
	insist(count > 0, api.ErrProto)
	insist(!slices.ContainsFunc(p.Codes, func(code int) bool {
		return code > maxSubscribe && (p.Kind != Suback || code != refused)
	}), api.ErrProto)
}

// length: how many bytes follow.
func (r *reader) length() int {
	n := 0
	for at := range maxLength {
		c := r.octet()
		n |= (c & 127) << (7 * at)
		if c < 128 {
			// A last byte 0 tells nothing that those ahead of it didn't tell.
			insist(n <= api.MaxFrame && (c > 0 || at == 0), api.ErrProto)
			return n
		}
	}
	panic(api.ErrProto)
}

// take: the next so many bytes.
func (r *reader) take(n int) string {
	insist(n <= len(r.rest), r.missing)
	s := r.rest[:n]
	r.rest = r.rest[n:]
	return s
}

// octet: the next byte.
func (r *reader) octet() int {
	return int(r.take(1)[0])
}

// upTo: the next byte, which is at most so great.
func (r *reader) upTo(most int) int {
	n := r.octet()
	insist(n <= most, api.ErrProto)
	return n
}

// number: the next two bytes as a number.
func (r *reader) number() int {
	high, low := r.octet(), r.octet()
	return high<<8 | low
}

// id: the next number, which isn't 0.
func (r *reader) id() int {
	n := r.number()
	insist(n > 0, api.ErrProto)
	return n
}

// text: the text that stands next. A clone: a packet isn't to hold on to all that came in with it.
func (r *reader) text() string {
	return strings.Clone(r.take(r.number()))
}

// insist gives up if something isn't so.
func insist(so bool, e api.Errno) {
	if !so {
		panic(e)
	}
}
