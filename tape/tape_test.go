package tape_test

import (
	"bytes"
	"encoding/hex"
	"math"
	"math/rand"
	"slices"
	"testing"

	"trivet/api"
	"trivet/drum"
	"trivet/tape"
)

// The exact signatures: the test isn't built if one is another.
var (
	_ func(*drum.Drum, int, int) (*tape.Tape, [][]byte, api.Errno) = tape.Open
	_ func(*drum.Drum, int) api.Errno                              = tape.Clear
	_ func(*tape.Tape, []byte) api.Errno                           = (*tape.Tape).Append
	_ func(*tape.Tape) int                                         = (*tape.Tape).Count
)

// The chapter's numbers, not the program's.
const (
	size = 256   // bytes of a page
	head = 12    // bytes ahead of a record's own
	most = 65536 // bytes of a record
)

// sum is layer 2's, worked out here once more.
func sum(seed int, b []byte) uint64 {
	const prime = 1<<31 - 1
	left, right := uint64(seed), uint64(seed+1)
	for _, c := range b {
		left = (257*left + uint64(c) + 1) % prime
		right = (65599*right + uint64(c) + 1) % prime
	}
	return left<<31 | right
}

// frame: a record with this number as it stands on a tape.
func frame(mark byte, number int, record []byte) []byte {
	n := len(record)
	length := []byte{byte(n >> 16), byte(n >> 8), byte(n)}
	s := sum(number, append(slices.Clone(length), record...))
	b := append([]byte{mark}, length...)
	for shift := 56; shift >= 0; shift -= 8 {
		b = append(b, byte(s>>shift))
	}
	return append(b, record...)
}

// frames: records as they stand on a tape, from the first one on.
func frames(records ...[]byte) []byte {
	var b []byte
	for i, r := range records {
		b = append(b, frame(1, i, r)...)
	}
	return b
}

// text: a record of so many bytes, unlike those of another salt.
func text(n int, salt byte) []byte {
	b := make([]byte, n)
	for i := range b {
		b[i] = byte(i)*7 + byte(i>>8) + salt
	}
	return b
}

// texts: a record of each of these lengths.
func texts(lengths ...int) [][]byte {
	var l [][]byte
	for i, n := range lengths {
		l = append(l, text(n, byte(i*31+1)))
	}
	return l
}

// junk fills all pages of a drum with one byte; and that is safe.
func junk(t *testing.T, d *drum.Drum, c byte) {
	t.Helper()
	for at := range d.Pages() {
		ok(t, d.Write(at, bytes.Repeat([]byte{c}, size)))
	}
	ok(t, d.Flush())
}

// lay writes bytes from a place on, counted from the drum's beginning, and nothing else; and that is safe.
func lay(t *testing.T, d *drum.Drum, place int, b []byte) {
	t.Helper()
	for i := 0; i < len(b); {
		at, from := (place+i)/size, (place+i)%size
		page, e := d.Read(at)
		ok(t, e)
		i += copy(page[from:], b[i:])
		ok(t, d.Write(at, page))
	}
	ok(t, d.Flush())
}

// all: the bytes of a drum.
func all(t *testing.T, d *drum.Drum) []byte {
	t.Helper()
	var b []byte
	for at := range d.Pages() {
		page, e := d.Read(at)
		ok(t, e)
		b = append(b, page...)
	}
	return b
}

func ok(t *testing.T, e api.Errno) {
	t.Helper()
	if e != api.OK {
		t.Fatalf("error %d", e)
	}
}

func same(a, b [][]byte) bool { return slices.EqualFunc(a, b, bytes.Equal) }

// lengths: for telling what was found.
func lengths(l [][]byte) []int {
	var n []int
	for _, r := range l {
		n = append(n, len(r))
	}
	return n
}

// opened: the stretch opens, with just these records.
func opened(t *testing.T, d *drum.Drum, lo, hi int, want ...[]byte) *tape.Tape {
	t.Helper()
	x, got, e := tape.Open(d, lo, hi)
	if e != api.OK || x == nil || !same(got, want) || x.Count() != len(want) {
		t.Fatalf("Open(%d, %d): %v, %d, Count %d; want %v", lo, hi, lengths(got), e, x.Count(), lengths(want))
	}
	return x
}

// refused: the stretch opens with this error and nothing beside it.
func refused(t *testing.T, d *drum.Drum, lo, hi int, want api.Errno) {
	t.Helper()
	if x, got, e := tape.Open(d, lo, hi); e != want || x != nil || len(got) != 0 {
		t.Fatalf("Open(%d, %d): %v, %v, %d; want %d", lo, hi, x, lengths(got), e, want)
	}
}

// The heads below were worked out apart from the program.

func TestP4_1_BytesOfRecords(t *testing.T) {
	for _, c := range []struct {
		ahead  []string
		record string
		head   string
	}{
		{nil, "hi", "0100000202863b6d42e1f2b0"},
		{nil, "", "0100000000008181af07e1fc"},
		{[]string{"hi"}, "", "01000000008203025d90b435"},
		{[]string{"x", ""}, "hi", "010000020c9042785c036fab"},
		{nil, string(bytes.Repeat([]byte("a"), 244)), "010000f41e21c89e3e8142ed"},
		{nil, string(bytes.Repeat([]byte("z"), most)), "0101000037f43f0bb7dc0a82"},
	} {
		d := drum.New(300)
		x := opened(t, d, 0, 300)
		place := 0
		for _, r := range c.ahead {
			ok(t, x.Append([]byte(r)))
			place += head + len(r)
		}
		ok(t, x.Append([]byte(c.record)))
		got := all(t, d)[place:]
		if hex.EncodeToString(got[:head]) != c.head {
			t.Errorf("%d records ahead, %d bytes: %x, want %s", len(c.ahead), len(c.record), got[:head], c.head)
		}
		if string(got[head:head+len(c.record)]) != c.record {
			t.Errorf("%d records ahead: the bytes aren't the record's", len(c.ahead))
		}
		if x.Count() != len(c.ahead)+1 {
			t.Errorf("Count %d", x.Count())
		}
	}
}

func TestP4_1_Examples(t *testing.T) {
	d := drum.New(4)
	x := opened(t, d, 1, 3)
	ok(t, x.Append([]byte("hi")))
	if d.Ops() != 4 {
		t.Errorf("%d raw operations", d.Ops())
	}
	if got := all(t, d)[size : 2*size]; !bytes.HasPrefix(got, []byte{1, 0, 0, 2}) || string(got[head:head+2]) != "hi" {
		t.Errorf("%x", got)
	}
	d = drum.New(2)
	junk(t, d, 1)
	ok(t, tape.Clear(d, 0))
	x = opened(t, d, 0, 2)
	was := d.Ops()
	ok(t, x.Append(text(244, 0)))
	if d.Ops()-was != 5 {
		t.Errorf("a whole page: %d raw operations", d.Ops()-was)
	}
	if got := all(t, d)[size:]; !bytes.Equal(got, make([]byte, size)) {
		t.Errorf("the second page: %x", got)
	}
}

func TestP4_1_NilTapeAndNilDrum(t *testing.T) {
	var x *tape.Tape
	if x.Count() != 0 {
		t.Error("Count of a nil tape")
	}
	for _, n := range []int{0, 1, most, most + 1} {
		if e := x.Append(make([]byte, n)); e != api.ErrNil {
			t.Errorf("Append of %d bytes to a nil tape: %d", n, e)
		}
	}
	for _, lo := range []int{math.MinInt, -1, 0, 1, math.MaxInt} {
		for _, hi := range []int{math.MinInt, -1, 0, 1, math.MaxInt} {
			refused(t, nil, lo, hi, api.ErrNil)
		}
		if e := tape.Clear(nil, lo); e != api.ErrNil {
			t.Errorf("Clear(nil, %d): %d", lo, e)
		}
	}
}

func TestP4_1_WhatIsNoStretch(t *testing.T) {
	edges := []int{math.MinInt, -1 << 32, -256, -1, 0, 1, 2, 3, 4, 5, 256, 4096, 4097, 1 << 32, 1 << 56, math.MaxInt}
	for _, down := range []bool{false, true} {
		for _, lo := range edges {
			for _, hi := range edges {
				d := drum.New(4)
				if down {
					d.Off(0)
				}
				switch is := lo >= 0 && lo < hi && hi <= 4; {
				case !is:
					refused(t, d, lo, hi, api.ErrArg)
				case down:
					refused(t, d, lo, hi, api.ErrDown)
				default:
					opened(t, d, lo, hi)
				}
				if d.Ops() != 0 {
					t.Fatalf("Open(%d, %d): %d raw operations", lo, hi, d.Ops())
				}
			}
		}
	}
	opened(t, drum.New(1), 0, 1)
	opened(t, drum.New(4096), 0, 4096)
	opened(t, drum.New(4096), 4095, 4096)
	refused(t, drum.New(4096), 4095, 4097, api.ErrArg)
	refused(t, drum.New(1), 1, 2, api.ErrArg)
	refused(t, drum.New(1), 0, 0, api.ErrArg)
}

// Records that end at the edges of pages and of the stretch, opened where a raw hand has laid them.
func TestP4_1_OpenFindsRecords(t *testing.T) {
	for _, c := range []struct {
		pages   int
		lengths []int
	}{
		{1, nil},
		{1, []int{0}},
		{1, []int{1, 0, 2}},
		{1, []int{243}},                            // a byte ahead of the stretch's end
		{1, []int{244}},                            // at it
		{2, []int{243}},                            // a byte ahead of a page's end
		{2, []int{244}},                            // at it
		{2, []int{245}},                            // a byte behind it
		{2, []int{232, 232, 12}},                   // a head that ends with the page
		{2, []int{233, 230, 12}},                   // a head of which a byte is on the next one
		{2, []int{243, 245}},                       // a head of which a byte is on the first one
		{2, []int{244, 244}},                       // a page each
		{3, []int{744}},                            // over all pages, and twelve bytes are left
		{3, []int{488}},                            // up to a page's end, over two
		{3, []int{200, 300, 208, 0, 0}},            // the last twelve bytes are one too
		{257, []int{most}},                         // the longest
		{257, []int{most, 0, 1}},                   // and some behind it
		{600, []int{1, most, most - 1, 3, 4, 500}}, // and ahead of it
	} {
		want := texts(c.lengths...)
		for _, lo := range []int{0, 1, 3} {
			// Behind the last one stands the mark 0 and then junk, or fewer than twelve bytes are left.
			d := drum.New(lo + c.pages + 1)
			junk(t, d, 1)
			b := append(frames(want...), 0)
			if len(b) > c.pages*size {
				b = b[:c.pages*size]
			}
			lay(t, d, lo*size, b)
			was, ops := all(t, d), d.Ops()
			x := opened(t, d, lo, lo+c.pages, want...)
			if x.Count() != len(c.lengths) {
				t.Errorf("%v: Count %d", c.lengths, x.Count())
			}
			if d.Ops() != ops || !bytes.Equal(all(t, d), was) {
				t.Errorf("%v: Open changed the drum", c.lengths)
			}
		}
	}
}

func TestP4_1_FewerThanTwelveLeft(t *testing.T) {
	for left := range head {
		for _, rest := range []byte{0, 1, 2, 255} {
			for _, pages := range []int{1, 2} {
				record := text(pages*size-head-left, 5)
				d := drum.New(4)
				junk(t, d, rest)
				lay(t, d, size, frame(1, 0, record))
				x := opened(t, d, 1, 1+pages, record)
				was, ops := all(t, d), d.Ops()
				for n := range 3 {
					if e := x.Append(make([]byte, n)); e != api.ErrFull {
						t.Fatalf("%d left: Append of %d bytes: %d", left, n, e)
					}
				}
				if d.Ops() != ops || !bytes.Equal(all(t, d), was) || x.Count() != 1 {
					t.Fatalf("%d left: a refused record changed something", left)
				}
			}
		}
	}
}

func TestP4_1_JustTwelveLeft(t *testing.T) {
	record := text(2*size-2*head, 9)
	at := 3*size - head
	whole := func() *drum.Drum {
		d := drum.New(4)
		junk(t, d, 7)
		lay(t, d, size, frame(1, 0, record))
		return d
	}
	d := whole()
	refused(t, d, 1, 3, api.ErrForm) // junk that is no mark
	lay(t, d, at, []byte{0})
	opened(t, d, 1, 3, record)
	lay(t, d, at, frame(1, 1, nil))
	opened(t, d, 1, 3, record, nil)
	lay(t, d, at, frame(1, 1, []byte{4})) // it fits on the drum, not on the stretch
	refused(t, d, 1, 3, api.ErrForm)
	lay(t, d, at+head+1, []byte{0})
	opened(t, d, 1, 4, record, []byte{4})

	d = whole()
	lay(t, d, at, []byte{0})
	x := opened(t, d, 1, 3, record)
	if e := x.Append([]byte{4}); e != api.ErrFull {
		t.Errorf("13 of 12 left: %d", e)
	}
	ok(t, x.Append(nil))
	if e := x.Append(nil); e != api.ErrFull {
		t.Errorf("none left: %d", e)
	}
	opened(t, d, 1, 3, record, nil)
}

func TestP4_1_WrongMarks(t *testing.T) {
	want := texts(3, 0, 300)
	place := 0
	for i, r := range append(want, nil) {
		for mark := range 256 {
			d := drum.New(4)
			lay(t, d, size, frames(want...))
			lay(t, d, size+place, []byte{byte(mark)})
			switch {
			case mark == 0:
				opened(t, d, 1, 4, want[:i]...)
			case mark > 1:
				refused(t, d, 1, 4, api.ErrForm)
			case i < len(want):
				opened(t, d, 1, 4, want...)
			default:
				refused(t, d, 1, 4, api.ErrSum) // noughts aren't the seal of none
			}
		}
		place += head + len(r)
	}
}

func TestP4_1_WrongLengths(t *testing.T) {
	// A head alone: its length is looked at ahead of its seal.
	bare := func(n int) []byte {
		return append([]byte{1, byte(n >> 16), byte(n >> 8), byte(n)}, make([]byte, 8)...)
	}
	for _, c := range []struct {
		pages, n int
		want     api.Errno
	}{
		{1, 244, api.ErrSum}, {1, 245, api.ErrForm}, {1, 256, api.ErrForm}, {1, 1 << 8, api.ErrForm},
		{2, 500, api.ErrSum}, {2, 501, api.ErrForm}, {2, 512, api.ErrForm},
		{256, 65524, api.ErrSum}, {256, 65525, api.ErrForm}, {256, most, api.ErrForm},
		{257, most, api.ErrSum}, {257, most + 1, api.ErrForm}, {4096, most + 1, api.ErrForm},
		{4096, most, api.ErrSum}, {4096, 1 << 17, api.ErrForm}, {4096, 1<<20 - head, api.ErrForm}, {4096, 1 << 20, api.ErrForm},
		{4096, 1<<24 - 1, api.ErrForm}, {1, 1<<24 - 1, api.ErrForm}, {1, 1 << 16, api.ErrForm},
	} {
		d := drum.New(4096)
		lo := min(4096-c.pages, 2)
		lay(t, d, lo*size, bare(c.n))
		refused(t, d, lo, lo+c.pages, c.want)
	}
}

func TestP4_1_TooLongEvenIfItsSealIsRight(t *testing.T) {
	d := drum.New(600)
	lay(t, d, 0, frame(1, 0, text(most+1, 3)))
	refused(t, d, 0, 600, api.ErrForm)
	lay(t, d, 0, frame(1, 0, text(most, 3)))
	lay(t, d, most+head, []byte{0})
	opened(t, d, 0, 600, text(most, 3))
	// Beyond the stretch, and within the drum.
	d = drum.New(4)
	lay(t, d, 0, frame(1, 0, text(245, 3)))
	refused(t, d, 0, 1, api.ErrForm)
	opened(t, d, 0, 2, text(245, 3))
}

func TestP4_1_AnotherSeal(t *testing.T) {
	want := texts(20, 5, 251, 0, 3)
	b := frames(want...)
	place := 0
	for _, r := range want {
		for i := range head + len(r) {
			if i < lengthEnd {
				continue
			}
			for _, flip := range []byte{1, 0x10, 0x80} {
				d := drum.New(3)
				lay(t, d, size, b)
				lay(t, d, size+place+i, []byte{b[place+i] ^ flip})
				refused(t, d, 1, 3, api.ErrSum)
			}
		}
		place += head + len(r)
	}
}

// lengthEnd is where a record's length ends.
const lengthEnd = 4

// Of a length that is another one the seal is too, where what it tells is on the stretch.
func TestP4_1_TheLengthIsSealed(t *testing.T) {
	record := make([]byte, 40)
	for n := range 60 {
		d := drum.New(1)
		lay(t, d, 0, frame(1, 0, record))
		lay(t, d, 3, []byte{byte(n)})
		if n == 40 {
			opened(t, d, 0, 1, record)
		} else {
			refused(t, d, 0, 1, api.ErrSum)
		}
	}
}

func TestP4_1_TheNumberIsSealed(t *testing.T) {
	for number := range 5 {
		for seed := range 5 {
			d := drum.New(2)
			want := texts(1, 2, 3, 4)[:number]
			b := frames(want...)
			lay(t, d, 0, append(b, frame(1, seed, []byte("hi"))...))
			if seed == number {
				opened(t, d, 0, 2, append(want, []byte("hi"))...)
			} else {
				refused(t, d, 0, 2, api.ErrSum)
			}
		}
	}
}

func TestP4_1_TheFirstFaultIsTold(t *testing.T) {
	good := frame(1, 0, []byte("hi"))
	spoilt := slices.Clone(good)
	spoilt[4] ^= 1
	long := append([]byte{1, 1, 0, 1}, make([]byte, 8)...)
	for _, c := range []struct {
		what string
		b    [][]byte
		want api.Errno
	}{
		{"a mark and a seal", [][]byte{append([]byte{9}, spoilt[1:]...)}, api.ErrForm},
		{"a length and a seal", [][]byte{long}, api.ErrForm},
		{"a seal ahead of a mark", [][]byte{spoilt, {9}}, api.ErrSum},
		{"a seal ahead of a length", [][]byte{spoilt, long}, api.ErrSum},
		{"a mark ahead of a seal", [][]byte{good, {9}, spoilt}, api.ErrForm},
		{"a seal behind a good one", [][]byte{good, spoilt}, api.ErrSum},
		{"a length behind a good one", [][]byte{good, long}, api.ErrForm},
		{"behind the end nothing counts", [][]byte{good, {0}, spoilt, long, {9}}, api.OK},
	} {
		d := drum.New(1)
		lay(t, d, 0, slices.Concat(c.b...))
		if c.want == api.OK {
			opened(t, d, 0, 1, []byte("hi"))
		} else {
			refused(t, d, 0, 1, c.want)
		}
		d.Off(0)
		refused(t, d, 0, 1, api.ErrDown)
		refused(t, d, 0, 2, api.ErrArg)
		d.On()
	}
}

func TestP4_1_WhichErrorOfAppend(t *testing.T) {
	long := make([]byte, most+1)
	d := drum.New(1)
	x := opened(t, d, 0, 1)
	told := func(what string, record []byte, want api.Errno) {
		t.Helper()
		if e := x.Append(record); e != want {
			t.Fatalf("%s: %d, want %d", what, e, want)
		}
	}
	told("long and full", long, api.ErrLong)
	told("the longest, and full", long[:most], api.ErrFull)
	told("full", make([]byte, 245), api.ErrFull)
	d.Off(0)
	told("long, full and down", long, api.ErrLong)
	told("full and down", make([]byte, 245), api.ErrFull)
	if d.Ops() != 0 {
		t.Fatalf("%d raw operations", d.Ops())
	}
	d.On()
	told("what was refused is no error that was met", []byte("hi"), api.OK)
	d.Off(0)
	told("down", []byte("ho"), api.ErrDown)
	d.On()
	was, ops := all(t, d), d.Ops()
	for range 3 {
		told("behind an error", []byte("ho"), api.ErrDown)
		told("behind an error, and long", long, api.ErrLong)
		told("behind an error, and full", make([]byte, 245), api.ErrDown)
		told("behind an error, none", nil, api.ErrDown)
	}
	if d.Ops() != ops || !bytes.Equal(all(t, d), was) || x.Count() != 1 {
		t.Error("an Append behind an error did something")
	}
	x = opened(t, d, 0, 1, []byte("hi"))
	told("opened anew", []byte("ho"), api.OK)
	opened(t, d, 0, 1, []byte("hi"), []byte("ho"))
}

// A loss of power that no Append met is no error of the tape.
func TestP4_1_ThePowerGoesBetweenAppends(t *testing.T) {
	d := drum.New(2)
	x := opened(t, d, 0, 2)
	for i, r := range texts(1, 240, 7) {
		ok(t, x.Append(r))
		d.Off(i * 100)
		if x.Count() != i+1 {
			t.Errorf("Count %d", x.Count())
		}
		d.On()
	}
	opened(t, d, 0, 2, texts(1, 240, 7)...)
}

// raw is a raw operation: a Write of a page, or, without one, a Flush.
type raw struct {
	at   int
	page []byte
}

// told: the raw operations of an Append by the chapter's words: was is the whole drum's bytes, place is counted in the stretch from lo on.
func told(was []byte, lo, hi, place, number int, record []byte) []raw {
	b := slices.Clone(was[lo*size : hi*size])
	end := place + copy(b[place:], frame(0, number, record))
	last := (end - 1) / size
	if end < len(b) {
		last = end / size
		clear(b[end : (last+1)*size])
	}
	var l []raw
	for p := place / size; p <= last; p++ {
		l = append(l, raw{lo + p, slices.Clone(b[p*size : (p+1)*size])})
	}
	l = append(l, raw{})
	b[place] = 1
	p := place / size
	return append(l, raw{lo + p, b[p*size : (p+1)*size]}, raw{})
}

// do makes raw operations, up to the first error.
func do(d *drum.Drum, l []raw) api.Errno {
	for _, r := range l {
		e := api.OK
		if r.page == nil {
			e = d.Flush()
		} else {
			e = d.Write(r.at, r.page)
		}
		if e != api.OK {
			return e
		}
	}
	return api.OK
}

// shape is what an Append meets: a stretch with records on it, and bytes that are no noughts all around.
type shape struct {
	lo, hi, pages int
	ahead         []int
	record        int
}

func shapes() []shape {
	return []shape{
		{0, 1, 1, nil, 0},
		{0, 1, 1, nil, 2},
		{1, 2, 3, nil, 243},
		{1, 2, 3, nil, 244}, // to the end of the stretch
		{1, 2, 3, []int{0, 7}, 213},
		{1, 2, 3, []int{232}, 0}, // the last twelve bytes
		{1, 3, 4, nil, 243},      // a byte ahead of the end of a page
		{1, 3, 4, nil, 244},      // at it
		{1, 3, 4, nil, 245},      // behind it
		{1, 3, 4, nil, 500},
		{1, 3, 4, nil, 499},
		{1, 3, 4, []int{232}, 0}, // a head up to the end of a page
		{1, 3, 4, []int{233}, 0}, // over it
		{1, 3, 4, []int{243}, 0},
		{1, 3, 4, []int{243}, 245},
		{1, 3, 4, []int{244}, 0}, // from the beginning of a page on
		{1, 3, 4, []int{244}, 244},
		{1, 3, 4, []int{245}, 3},
		{2, 6, 7, []int{100}, 388}, // over two pages, to the end of one
		{2, 6, 7, []int{100}, 387},
		{2, 6, 7, []int{100}, 389},
		{2, 6, 7, []int{3, 4, 5, 600}, 100},
		{2, 6, 7, []int{3, 4, 5, 600}, 352}, // to the end of the stretch
	}
}

// meets: a drum as the shape says, with a tape that is open on it, and the records ahead.
func (s shape) meets(t *testing.T) (*drum.Drum, *tape.Tape, [][]byte) {
	t.Helper()
	d := drum.New(s.pages)
	junk(t, d, 1)
	ahead := texts(s.ahead...)
	b := append(frames(ahead...), 0)
	lay(t, d, s.lo*size, b)
	return d, opened(t, d, s.lo, s.hi, ahead...), ahead
}

func (s shape) place() int {
	place := 0
	for _, n := range s.ahead {
		place += head + n
	}
	return place
}

// kinds: how many bytes may be kept of an Append's, with all edges of its place.
func (s shape) kinds() []int {
	at := s.place() % size
	all := s.hi*size - s.lo*size + size
	l := []int{math.MinInt, -1, 0, 1, 2, at - 1, at, at + 1, at + 2, at + 4, at + head, at + head + 1, math.MaxInt}
	for edge := size; edge <= all; edge += size {
		l = append(l, edge-1, edge, edge+1, edge+at, edge+at+1)
	}
	return l
}

func TestP4_1_RawOperations(t *testing.T) {
	for _, s := range shapes() {
		d, x, _ := s.meets(t)
		want, _, _ := s.meets(t)
		record := text(s.record, 77)
		l := told(all(t, d), s.lo, s.hi, s.place(), len(s.ahead), record)
		if e := x.Append(record); e != api.OK {
			t.Fatalf("%+v: Append: %d", s, e)
		}
		ok(t, do(want, l))
		if d.Ops() != want.Ops() || !bytes.Equal(all(t, d), all(t, want)) {
			t.Fatalf("%+v: %d raw operations, want %d", s, d.Ops(), want.Ops())
		}
		if x.Count() != len(s.ahead)+1 {
			t.Fatalf("%+v: Count %d", s, x.Count())
		}
		// All is safe.
		d.Off(0)
		d.On()
		if !bytes.Equal(all(t, d), all(t, want)) {
			t.Fatalf("%+v: something waited behind the Append", s)
		}
	}
}

// lost: the power goes in the n-th raw operation of an Append, with k: the drum is what the told operations make of it, and behind it all is as the chapter says.
func (s shape) lost(t *testing.T, n, k int) {
	t.Helper()
	d, x, ahead := s.meets(t)
	twin, _, _ := s.meets(t)
	record := text(s.record, 77)
	l := told(all(t, d), s.lo, s.hi, s.place(), len(s.ahead), record)
	d.Arm(n, k)
	twin.Arm(n, k)
	want := do(twin, l)
	if e := x.Append(record); e != want || d.Ops() != twin.Ops() || d.Down() != twin.Down() {
		t.Fatalf("%+v, %d, %d: Append: %d, %d raw operations; want %d, %d", s, n, k, e, d.Ops(), want, twin.Ops())
	}
	ops := d.Ops()
	d.On()
	twin.On()
	was := all(t, d)
	if !bytes.Equal(was, all(t, twin)) {
		t.Fatalf("%+v, %d, %d: the drum isn't what the raw operations make of it", s, n, k)
	}
	if x.Append(nil) != want || x.Append(record) != want || x.Count() != len(ahead) {
		t.Fatalf("%+v, %d, %d: behind the error: Count %d", s, n, k, x.Count())
	}
	_, got, e := tape.Open(d, s.lo, s.hi)
	whole := append(slices.Clone(ahead), record)
	if e != api.OK || !same(got, ahead) && !same(got, whole) {
		t.Fatalf("%+v, %d, %d: behind it: %v, %d", s, n, k, lengths(got), e)
	}
	// It is there just if the page with its mark was kept so far; that is the last write, behind the first Flush.
	at := s.place() % size
	if marked := n >= len(l)-1 && k > at; marked != (len(got) == len(whole)) {
		t.Fatalf("%+v, %d, %d: behind it: %v", s, n, k, lengths(got))
	}
	if d.Ops() != ops || !bytes.Equal(all(t, d), was) {
		t.Fatalf("%+v, %d, %d: something was done behind the error", s, n, k)
	}
	s.goesOn(t, d, got)
}

// goesOn: what was found takes another record, or has no room.
func (s shape) goesOn(t *testing.T, d *drum.Drum, found [][]byte) {
	t.Helper()
	x := opened(t, d, s.lo, s.hi, found...)
	next := text(s.record, 99)
	room := (s.hi-s.lo)*size - len(frames(found...))
	switch e := x.Append(next); {
	case room >= head+len(next):
		ok(t, e)
		found = append(found, next)
	case e != api.ErrFull:
		t.Fatalf("%+v: %d bytes left: %d", s, room, e)
	}
	opened(t, d, s.lo, s.hi, found...)
}

func TestP4_2_ThePowerGoesInEachRawOperation(t *testing.T) {
	for _, s := range shapes() {
		d, _, _ := s.meets(t)
		ops := len(told(all(t, d), s.lo, s.hi, s.place(), len(s.ahead), text(s.record, 77)))
		for n := 1; n <= ops; n++ {
			for _, k := range s.kinds() {
				s.lost(t, n, k)
			}
		}
	}
}

func TestP4_2_EveryNumberOfBytesKept(t *testing.T) {
	for _, s := range []shape{
		{1, 3, 4, []int{5, 100}, 140}, // over a page's end
		{0, 2, 2, []int{244}, 244},    // to the stretch's end
	} {
		for n := 1; n <= 5; n++ {
			for k := range 3*size + 2 {
				if d, _, _ := s.meets(t); n <= len(told(all(t, d), s.lo, s.hi, s.place(), len(s.ahead), text(s.record, 77))) {
					s.lost(t, n, k)
				}
			}
		}
	}
}

func TestP4_2_TheLongestRecord(t *testing.T) {
	s := shape{1, 300, 301, []int{50}, most}
	for _, n := range []int{1, 2, 100, 256, 257, 258, 259, 260} {
		for _, k := range []int{0, 62, 63, 256, 60000, 1 << 20} {
			s.lost(t, n, k)
		}
	}
}

// Losses one behind the other: what was answered is always there.
func TestP4_2_ManyLosses(t *testing.T) {
	r := rand.New(rand.NewSource(4))
	for round := range 300 {
		pages := 1 + r.Intn(8)
		lo := r.Intn(3)
		d := drum.New(lo + pages + 1)
		junk(t, d, byte(1+r.Intn(3)))
		ok(t, tape.Clear(d, lo))
		x := opened(t, d, lo, lo+pages)
		var have [][]byte
		for step := range 40 {
			record := text(r.Intn(1+r.Intn(400)), byte(step))
			armed := r.Intn(3) == 0
			if armed {
				d.Arm(1+r.Intn(7), r.Intn(1200)-50)
			}
			e := x.Append(record)
			if e == api.OK {
				have = append(have, record)
			}
			if !d.Down() {
				d.Arm(0, 0)
				if left := pages*size - len(frames(have...)); e != api.OK && (e != api.ErrFull || left >= head+len(record)) {
					t.Fatalf("round %d: Append: %d with %d left", round, e, left)
				}
				continue
			}
			if e != api.ErrDown {
				t.Fatalf("round %d: Append while the power went: %d", round, e)
			}
			d.On()
			y, got, e := tape.Open(d, lo, lo+pages)
			if e != api.OK || !same(got, have) && !same(got, append(slices.Clone(have), record)) {
				t.Fatalf("round %d: %v, %d; want %v", round, lengths(got), e, lengths(have))
			}
			x, have = y, got
		}
		opened(t, d, lo, lo+pages, have...)
	}
}

// What stood behind a tape's end, however well it is made, never counts.
func TestP4_2_OverWhatStoodThere(t *testing.T) {
	// Whole pages, so that old records begin just where new ones end.
	old := texts(244, 244, 244, 244)
	for n := 1; n <= 5; n++ {
		for _, k := range []int{-1, 0, 1, 4, 12, 255, 256, 257, 511, 512, 513, 2000} {
			d := drum.New(4)
			lay(t, d, 0, frames(old...))
			opened(t, d, 0, 4, old...)
			ok(t, tape.Clear(d, 0))
			x := opened(t, d, 0, 4)
			ok(t, d.Flush())
			record := text(244, 200)
			d.Arm(n, k)
			if e := x.Append(record); e != api.ErrDown {
				t.Fatalf("Append: %d", e)
			}
			d.On()
			if _, got, e := tape.Open(d, 0, 4); e != api.OK || len(got) != 0 && !same(got, [][]byte{record}) {
				t.Fatalf("%d, %d: %v, %d", n, k, lengths(got), e)
			}
		}
	}
	d := drum.New(4)
	lay(t, d, 0, frames(old...))
	ok(t, tape.Clear(d, 0))
	x := opened(t, d, 0, 4)
	for i := range 4 {
		ok(t, x.Append(old[i]))
		opened(t, d, 0, 4, old[:i+1]...)
	}
}

func TestP4_1_Clear(t *testing.T) {
	old := texts(300, 100, 244)
	for _, lo := range []int{0, 1, 3} {
		d := drum.New(7)
		junk(t, d, 1)
		lay(t, d, lo*size, frames(old...))
		was, ops := all(t, d), d.Ops()
		ok(t, tape.Clear(d, lo))
		if d.Ops() != ops+1 {
			t.Fatalf("%d raw operations", d.Ops()-ops)
		}
		want := slices.Clone(was)
		clear(want[lo*size : (lo+1)*size])
		if !bytes.Equal(all(t, d), want) {
			t.Fatal("Clear wrote something else")
		}
		opened(t, d, lo, lo+3)
		// It waits to be safe.
		d.Off(1)
		d.On()
		want = slices.Clone(was)
		want[lo*size] = 0
		if !bytes.Equal(all(t, d), want) {
			t.Fatal("a Clear of which a byte is kept")
		}
		opened(t, d, lo, lo+3)
	}
}

func TestP4_1_ClearAnswersWrite(t *testing.T) {
	for _, down := range []bool{false, true} {
		d := drum.New(3)
		junk(t, d, 9)
		was, ops := all(t, d), d.Ops()
		if down {
			d.Off(0)
			if e := tape.Clear(d, 1); e != api.ErrDown {
				t.Errorf("Clear while the power is off: %d", e)
			}
		}
		for _, lo := range []int{math.MinInt, -1, 3, 4, 4096, 1 << 56, math.MaxInt} {
			if e := tape.Clear(d, lo); e != api.ErrArg {
				t.Errorf("Clear of page %d, down %v: %d", lo, down, e)
			}
		}
		d.On()
		if d.Ops() != ops || !bytes.Equal(all(t, d), was) {
			t.Error("a refused Clear did something")
		}
		ok(t, tape.Clear(d, 2))
	}
	d := drum.New(2)
	junk(t, d, 9)
	d.Arm(1, 3)
	if e := tape.Clear(d, 1); e != api.ErrDown || !d.Down() {
		t.Errorf("the power goes in a Clear: %d", e)
	}
	d.On()
	if got := all(t, d)[size:]; !bytes.Equal(got[:4], []byte{0, 0, 0, 9}) {
		t.Errorf("behind it: %x", got[:4])
	}
}

// What a raw hand writes ahead of the place stays as it is.
func TestP4_1_WhatStandsAheadStays(t *testing.T) {
	d := drum.New(2)
	x := opened(t, d, 0, 2)
	ok(t, x.Append(text(20, 1)))
	lay(t, d, head+5, []byte("other"))
	want := all(t, d)[:head+20]
	ok(t, x.Append(text(300, 2)))
	if got := all(t, d)[:head+20]; !bytes.Equal(got, want) {
		t.Errorf("%x, want %x", got, want)
	}
}

func TestP4_1_ManyRecords(t *testing.T) {
	d := drum.New(4096)
	var b []byte
	var want [][]byte
	for len(b)+head <= 4096*size {
		b = append(b, frame(1, len(want), nil)...)
		want = append(want, nil)
	}
	lay(t, d, 0, b)
	x := opened(t, d, 0, 4096, want...)
	if e := x.Append(nil); e != api.ErrFull {
		t.Errorf("behind %d records: %d", len(want), e)
	}
	d = drum.New(40)
	x = opened(t, d, 0, 40)
	for i := range 40 * size / head {
		ok(t, x.Append(nil))
		if x.Count() != i+1 {
			t.Fatalf("Count %d", x.Count())
		}
	}
	opened(t, d, 0, 40, want[:40*size/head]...)
}

func TestP4_1_TheLongestRecordAndOneMore(t *testing.T) {
	d := drum.New(1000)
	x := opened(t, d, 0, 1000)
	was := all(t, d)
	for _, n := range []int{most + 1, most + 2, 1 << 17, 1 << 20} {
		if e := x.Append(make([]byte, n)); e != api.ErrLong {
			t.Errorf("%d bytes: %d", n, e)
		}
	}
	if d.Ops() != 0 || x.Count() != 0 || !bytes.Equal(all(t, d), was) {
		t.Error("what is too long did something")
	}
	want := [][]byte{text(most, 1), text(most-1, 2), text(most, 3)}
	for _, r := range want {
		ops := d.Ops()
		ok(t, x.Append(r))
		if d.Ops()-ops != 260 {
			t.Errorf("%d raw operations", d.Ops()-ops)
		}
	}
	opened(t, d, 0, 1000, want...)
}

func TestP4_3_OpenChangesNothing(t *testing.T) {
	want := texts(3, 400, 0)
	d := drum.New(5)
	junk(t, d, 6)
	lay(t, d, size, append(frames(want...), 0))
	unsealed := append([]byte{1, 0, 0, 1}, make([]byte, size-4)...)
	ok(t, d.Write(4, unsealed))
	ok(t, d.Write(0, text(size, 2)))
	d.Arm(1, size+7)
	ops, was := d.Ops(), all(t, d)
	for range 5 {
		opened(t, d, 1, 4, want...)
		refused(t, d, 0, 4, api.ErrForm)
		refused(t, d, 4, 5, api.ErrSum)
		refused(t, d, 4, 6, api.ErrArg)
	}
	if d.Ops() != ops || d.Down() || !bytes.Equal(all(t, d), was) {
		t.Fatal("Open changed something")
	}
	// What is armed still is, and what waits does.
	if e := d.Flush(); e != api.ErrDown {
		t.Fatalf("what was armed isn't: %d", e)
	}
	for range 2 {
		refused(t, d, 1, 4, api.ErrDown)
	}
	d.On()
	page := append(text(size, 2)[:7], bytes.Repeat([]byte{6}, size-7)...)
	if got := all(t, d); !bytes.Equal(got[:size], page) || !bytes.Equal(got[4*size:], unsealed) {
		t.Error("what waited was made safe, or lost")
	}
	opened(t, d, 1, 4, want...)
}

func TestP4_3_RefusedRecordsChangeNothing(t *testing.T) {
	want := texts(3, 400, 10)
	d := drum.New(4)
	junk(t, d, 6)
	ok(t, tape.Clear(d, 1))
	x := opened(t, d, 1, 3)
	refuse := func(i int) {
		t.Helper()
		was, ops := all(t, d), d.Ops()
		left := 2*size - len(frames(want[:i]...))
		for _, n := range []int{left - head + 1, left, 600, 65000, most, most + 1, 1 << 17} {
			e := api.ErrFull
			if n > most {
				e = api.ErrLong
			}
			if got := x.Append(text(n, 4)); got != e {
				t.Fatalf("behind %d records: %d bytes: %d, want %d", i, n, got, e)
			}
		}
		if d.Ops() != ops || !bytes.Equal(all(t, d), was) || x.Count() != i {
			t.Fatalf("behind %d records: a refused one changed something", i)
		}
	}
	for i, r := range want {
		refuse(i)
		ok(t, x.Append(r))
	}
	refuse(len(want))
	opened(t, d, 1, 3, want...)
}

func TestP4_4_NothingOutsideTheStretch(t *testing.T) {
	for _, c := range []struct{ lo, hi int }{{0, 1}, {0, 3}, {1, 2}, {2, 5}, {3, 6}, {5, 6}} {
		d := drum.New(6)
		junk(t, d, 8)
		was := all(t, d)
		ok(t, tape.Clear(d, c.lo))
		x := opened(t, d, c.lo, c.hi)
		for i := range 60 {
			e := x.Append(text(i*7%50, byte(i)))
			if e != api.OK && e != api.ErrFull {
				t.Fatalf("Append: %d", e)
			}
			got := all(t, d)
			if !bytes.Equal(got[:c.lo*size], was[:c.lo*size]) || !bytes.Equal(got[c.hi*size:], was[c.hi*size:]) {
				t.Fatalf("%v: record %d: something outside was written", c, i)
			}
		}
	}
}

func TestP4_4_WhatIsHandedIn(t *testing.T) {
	room := text(2000, 50)
	was := slices.Clone(room)
	d := drum.New(8)
	x := opened(t, d, 0, 8)
	var want [][]byte
	hand := func(from, to int, e api.Errno) {
		t.Helper()
		if got := x.Append(room[from:to]); got != e {
			t.Fatalf("Append: %d, want %d", got, e)
		}
		if !bytes.Equal(room, was) {
			t.Fatal("what was handed in, or its spare room, was changed")
		}
	}
	for _, c := range []struct{ from, to int }{{10, 12}, {0, 0}, {100, 400}, {7, 500}} {
		hand(c.from, c.to, api.OK)
		want = append(want, slices.Clone(room[c.from:c.to]))
		// What the caller writes now isn't seen.
		for i := range room {
			room[i]++
		}
		was = slices.Clone(room)
		ok(t, x.Append([]byte{1, 2}))
		want = append(want, []byte{1, 2})
		x = opened(t, d, 0, 8, want...)
	}
	hand(0, 2000, api.ErrFull)
	for n := 1; n <= 4; n++ {
		d.Arm(n, 100)
		hand(3, 9, api.ErrDown)
		hand(3, 9, api.ErrDown)
		d.On()
		x, _, _ = tape.Open(d, 0, 8)
	}
}

func TestP4_4_WhatIsAnsweredIsNewMemory(t *testing.T) {
	want := texts(3, 0, 5, 300, 1, 244, 0, 2)
	d := drum.New(6)
	lay(t, d, 0, frames(want...))
	was := all(t, d)
	_, l, e := tape.Open(d, 0, 6)
	ok(t, e)
	_, other, e := tape.Open(d, 0, 6)
	ok(t, e)
	for i := range l {
		// Over its own room, spare room included: none of the others is met.
		room := l[i][:cap(l[i])]
		for j := range room {
			room[j] = byte(i + 200)
		}
		for j := range l {
			now := want[j]
			if j <= i {
				now = bytes.Repeat([]byte{byte(j + 200)}, len(now))
			}
			if !bytes.Equal(l[j], now) {
				t.Fatalf("the records %d and %d share memory", i, j)
			}
		}
		if !same(other, want) || !bytes.Equal(all(t, d), was) {
			t.Fatalf("record %d shares memory", i)
		}
	}
	x := opened(t, d, 0, 6, want...)
	ok(t, x.Append([]byte("one more")))
	opened(t, d, 0, 6, append(want, []byte("one more"))...)
}

// found: what Open answers, by the chapter's words, of the bytes of a stretch.
func found(b []byte) ([][]byte, api.Errno) {
	var l [][]byte
	for place := 0; len(b)-place >= head && b[place] != 0; {
		n := int(b[place+1])<<16 + int(b[place+2])<<8 + int(b[place+3])
		if b[place] != 1 || n > most || place+head+n > len(b) {
			return nil, api.ErrForm
		}
		end := place + head + n
		record := b[place+head : end]
		if !bytes.Equal(b[place:end], frame(1, len(l), record)) {
			return nil, api.ErrSum
		}
		l = append(l, record)
		place = end
	}
	return l, api.OK
}

// spoilt: a drum's bytes, of records that may be whole or not.
func spoilt(r *rand.Rand, pages int) []byte {
	b := make([]byte, pages*size)
	for i := range b {
		b[i] = byte(r.Intn(3)) * byte(r.Intn(2))
	}
	place := 0
	for i := range r.Intn(12) {
		if place >= len(b) {
			break
		}
		place += copy(b[place:], frame(1, i, text(r.Intn(1+r.Intn(300)), byte(i))))
	}
	if place < len(b) {
		b[place] = byte(r.Intn(3)) / 2
	}
	for range r.Intn(2) {
		b[r.Intn(min(len(b), place+1))] = byte(r.Intn(4))
	}
	return b
}

func TestP4_1_EveryDrum(t *testing.T) {
	r := rand.New(rand.NewSource(44))
	told := map[api.Errno]int{}
	for range 4000 {
		pages := 1 + r.Intn(6)
		b := spoilt(r, pages)
		d := drum.New(pages)
		lay(t, d, 0, b)
		lo := r.Intn(pages) * r.Intn(2)
		hi := lo + 1 + r.Intn(pages-lo)
		want, e := found(b[lo*size : hi*size])
		told[e]++
		if e == api.OK {
			opened(t, d, lo, hi, want...)
		} else {
			refused(t, d, lo, hi, e)
		}
		if !bytes.Equal(all(t, d), b) {
			t.Fatal("Open changed the drum")
		}
	}
	for _, e := range []api.Errno{api.OK, api.ErrForm, api.ErrSum} {
		if told[e] < 100 {
			t.Errorf("error %d: %d drums alone", e, told[e])
		}
	}
}
