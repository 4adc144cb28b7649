package table

import (
	"cmp"
	"math"
	"slices"
	"strings"

	"trivet/api"
	"trivet/flt"
	"trivet/prop"
)

// reader is what is left of bytes; what doesn't stand there gives the reading up.
type reader struct {
	rest string
}

// method: the method of a payload.
func method(s string) api.Method {
	r := reader{rest: s}
	m := api.Method{Class: r.whole(2), Id: r.whole(2)}
	form, is := Form(m.Class, m.Id)
	insist(is, api.ErrForm)
	for at := range len(form) {
		r.part(form[at], &m)
	}
	insist(r.rest == "", api.ErrForm)
	return m
}

// part reads what a letter of a form stands for into a method.
func (r *reader) part(letter byte, m *api.Method) {
	switch letter {
	case 's':
		m.Texts = append(m.Texts, r.short())
	case 'S':
		m.Texts = append(m.Texts, r.long(api.MaxBody))
	case 'T':
		m.Props = r.table()
	default:
		m.Nums = append(m.Nums, r.whole(width(letter)))
	}
}

// table: the properties of a table, by rising names.
func (r *reader) table() []api.Prop {
	fields := reader{rest: r.cut(r.num(4))}
	var list []api.Prop
	for fields.rest != "" {
		// At the first one too many: bytes that can't be a table's needn't be gone through to their end.
		insist(len(list) < api.MaxProps, api.ErrForm)
		list = append(list, fields.field())
	}
	slices.SortFunc(list, func(a, b api.Prop) int { return cmp.Compare(a.Name, b.Name) })
	insist(prop.Valid(list), api.ErrForm)
	return list
}

// field: the property that a table's field tells; whether it can be isn't asked.
func (r *reader) field() api.Prop {
	name := r.short()
	return api.Prop{Name: name, Value: r.value()}
}

// value: the value of a field, behind its name.
func (r *reader) value() api.Value {
	switch r.num(1) {
	case 't':
		return api.Value{Kind: api.VBool, Num: int(r.num(1))}
	case 'b':
		return integer(int(int8(r.num(1))))
	case 's':
		return integer(int(int16(r.num(2))))
	case 'I':
		return integer(int(int32(r.num(4))))
	case 'l':
		return integer(int(int64(r.num(8))))
	case 'f':
		return api.Value{Kind: api.VReal, Real: flt.Widen(uint32(r.num(4)))}
	case 'd':
		return api.Value{Kind: api.VReal, Real: flt.Canon(math.Float64frombits(r.num(8)))}
	case 'S':
		return api.Value{Kind: api.VText, Text: r.long(api.MaxText)}
	}
	panic(api.ErrForm)
}

// integer: an int's value, of whatever width it was.
func integer(n int) api.Value {
	return api.Value{Kind: api.VInt, Num: n}
}

// short: the next short text.
func (r *reader) short() string {
	return strings.Clone(r.cut(r.num(1)))
}

// long: the next long text, of at most so many bytes.
func (r *reader) long(most uint64) string {
	n := r.num(4)
	insist(n <= most, api.ErrForm)
	// A clone, as in short: a text of a few bytes isn't to hold on to all that came in with it.
	return strings.Clone(r.cut(n))
}

// whole: the next number without a sign, of so many bytes, which an int must have room for.
func (r *reader) whole(size int) int {
	n := r.num(size)
	insist(n <= math.MaxInt, api.ErrForm)
	return int(n)
}

// num: the next so many bytes as bits, the highest byte first.
func (r *reader) num(size int) uint64 {
	n := uint64(0)
	for _, c := range []byte(r.cut(uint64(size))) {
		n = n<<8 | uint64(c)
	}
	return n
}

// cut: the next so many bytes. The number is unsigned, since bytes tell it: none is below 0.
func (r *reader) cut(n uint64) string {
	insist(n <= uint64(len(r.rest)), api.ErrForm)
	s := r.rest[:n]
	r.rest = r.rest[n:]
	return s
}
