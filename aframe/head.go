package aframe

import (
	"trivet/api"
	"trivet/table"
)

// What stands in a content header ahead of its properties: the class, 0, how many bytes the body has, the flags.
const (
	class     = 60
	headAhead = 14
)

// The flags of a content header.
const (
	hasProps = 8192
	hasMode  = 4096
)

// The modes of a message: whether it outlives a loss of power.
const (
	passing = 1
	lasting = 2
)

// Head: the payload of a content header: of a body of so many bytes, with properties; ErrMsg, ErrArg.
func Head(size int, list []api.Prop, durable bool) ([]byte, api.Errno) {
	if size < 0 || size > api.MaxBody {
		return nil, api.ErrArg
	}
	if len(list) == 0 {
		return append(putFixed(size, hasMode), mode(durable)), api.OK
	}
	b, err := table.Put(putFixed(size, hasProps|hasMode), list)
	if err != api.OK {
		return nil, err
	}
	return append(b, mode(durable)), api.OK
}

// putFixed: what stands in a content header ahead of its properties.
func putFixed(size, flags int) []byte {
	b := putNum(nil, 2, class)
	b = putNum(b, 2, 0)
	b = putNum(b, 8, size)
	return putNum(b, 2, flags)
}

// mode: the byte that tells whether a message is durable.
func mode(durable bool) byte {
	if durable {
		return lasting
	}
	return passing
}

// ReadHead: what a content header's payload tells: how many bytes the body has, the properties, whether it is durable; ErrForm, ErrLong.
func ReadHead(s string) (int, []api.Prop, bool, api.Errno) {
	if len(s) < headAhead || num(s[:4]) != class<<16 {
		return 0, nil, false, api.ErrForm
	}
	size, flags := num(s[4:12]), num(s[12:headAhead])
	list, durable, is := readRest(s[headAhead:], flags)
	if !is {
		return 0, nil, false, api.ErrForm
	}
	// Only now: bytes of another form are told as such, however long the body would be.
	if size > api.MaxBody {
		return 0, nil, false, api.ErrLong
	}
	return int(size), list, durable, api.OK
}

// readRest: the properties and the mode, as far as flags say that they stand there; false: that isn't just what stands there.
func readRest(s string, flags uint64) (list []api.Prop, durable, is bool) {
	if flags&^(hasProps|hasMode) != 0 {
		return nil, false, false
	}
	if flags&hasProps != 0 {
		props, size, err := table.Take(s)
		if err != api.OK {
			return nil, false, false
		}
		list, s = props, s[size:]
	}
	if flags&hasMode == 0 {
		return list, false, s == ""
	}
	if len(s) != 1 || s[0] != passing && s[0] != lasting {
		return nil, false, false
	}
	return list, s[0] == lasting, true
}
