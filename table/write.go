package table

import (
	"math"

	"trivet/api"
	"trivet/flt"
	"trivet/prop"
)

// maxShort is how many bytes a short text can have: one byte tells it.
const maxShort = 255

// writer writes a payload; its numbers, texts and properties are those that aren't written yet.
type writer struct {
	out   []byte
	nums  []int
	texts []string
	props []api.Prop
}

// payload: a method's payload.
func payload(m api.Method) []byte {
	form, is := Form(m.Class, m.Id)
	insist(is, api.ErrArg)
	w := writer{nums: m.Nums, texts: m.Texts, props: m.Props}
	w.out = putNum(putNum(w.out, 2, uint64(m.Class)), 2, uint64(m.Id))
	for at := range len(form) {
		w.part(form[at])
	}
	// What is left, no letter asked for.
	insist(len(w.nums)+len(w.texts)+len(w.props) == 0, api.ErrArg)
	return w.out
}

// part writes what a letter of a form stands for.
func (w *writer) part(letter byte) {
	switch letter {
	case 's':
		w.out = putShort(w.out, w.text(maxShort))
	case 'S':
		w.out = putLong(w.out, w.text(api.MaxBody))
	case 'T':
		insist(prop.Valid(w.props), api.ErrArg)
		w.out = putTable(w.out, w.props)
		w.props = nil
	default:
		size := width(letter)
		w.out = putNum(w.out, size, w.num(size))
	}
}

// num: the next number, which must fit so many bytes.
func (w *writer) num(size int) uint64 {
	insist(len(w.nums) > 0, api.ErrArg)
	n := w.nums[0]
	w.nums = w.nums[1:]
	insist(n >= 0 && uint64(n)>>(8*size) == 0, api.ErrArg)
	return uint64(n)
}

// text: the next text, of at most so many bytes.
func (w *writer) text(most int) string {
	insist(len(w.texts) > 0, api.ErrArg)
	s := w.texts[0]
	w.texts = w.texts[1:]
	insist(len(s) <= most, api.ErrArg)
	return s
}

// putTable: bytes with a table behind them; the properties are such that can be a message's.
func putTable(b []byte, list []api.Prop) []byte {
	var fields []byte
	for _, p := range list {
		fields = putValue(putShort(fields, p.Name), p.Value)
	}
	return putLong(b, string(fields))
}

// putValue: bytes with a field's letter and value behind them.
func putValue(b []byte, v api.Value) []byte {
	switch v.Kind {
	case api.VBool:
		return putNum(append(b, 't'), 1, uint64(v.Num))
	case api.VText:
		return putLong(append(b, 'S'), v.Text)
	case api.VReal:
		return putFloat(b, v.Real)
	}
	return putNum(append(b, 'l'), 8, uint64(v.Num))
}

// putFloat: bytes with a float's letter and bits behind them, as few as have it.
func putFloat(b []byte, x float64) []byte {
	if narrow, is := flt.Narrow(x); is {
		return putNum(append(b, 'f'), 4, uint64(narrow))
	}
	return putNum(append(b, 'd'), 8, math.Float64bits(x))
}

// putShort: bytes with a short text behind them.
func putShort(b []byte, s string) []byte {
	return append(putNum(b, 1, uint64(len(s))), s...)
}

// putLong: bytes with a long text behind them.
func putLong(b []byte, s string) []byte {
	return append(putNum(b, 4, uint64(len(s))), s...)
}

// putNum: bytes with the lowest so many bytes of a number behind them, the highest of these first.
func putNum(b []byte, size int, n uint64) []byte {
	for at := range size {
		b = append(b, byte(n>>(8*(size-1-at))))
	}
	return b
}
