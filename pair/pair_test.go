package pair_test

import (
	"bytes"
	"encoding/hex"
	"math"
	"math/rand"
	"slices"
	"testing"

	"trivet/api"
	"trivet/drum"
	"trivet/pair"
)

// The exact signatures: the test isn't built if one is another.
var (
	_ func(*drum.Drum) (*pair.Pair, []byte, [][]byte, api.Errno) = pair.Open
	_ func(*pair.Pair, []byte) api.Errno                         = (*pair.Pair).Append
	_ func(*pair.Pair, []byte) api.Errno                         = (*pair.Pair).Save
	_ func(*pair.Pair) int                                       = (*pair.Pair).Count
)

// The chapters' numbers, not the program's.
const (
	size = 256   // bytes of a page
	head = 12    // bytes ahead of a snapshot's own, and of a record's
	most = 65536 // bytes of a record
)

// sum is layer 2's, worked out here once more.
func sum(seed int, b []byte) []byte {
	const prime = 1<<31 - 1
	left, right := uint64(seed), uint64(seed+1)
	for _, c := range b {
		left = (257*left + uint64(c) + 1) % prime
		right = (65599*right + uint64(c) + 1) % prime
	}
	s := left<<31 | right
	var l []byte
	for shift := 56; shift >= 0; shift -= 8 {
		l = append(l, byte(s>>shift))
	}
	return l
}

// four: a number in four bytes, the highest first.
func four(n int) []byte {
	return []byte{byte(n >> 24), byte(n >> 16), byte(n >> 8), byte(n)}
}

// snap: a snapshot as it stands on a half, without what is behind it on its last page.
func snap(b []byte) []byte {
	return slices.Concat(four(len(b)), sum(len(b), b), b)
}

// takes: how many pages a snapshot of so many bytes takes.
func takes(n int) int {
	pages := 0
	for pages*size < head+n {
		pages++
	}
	return pages
}

// frame: a record with this number as it stands on a tape.
func frame(mark byte, number int, record []byte) []byte {
	length := four(len(record))[1:]
	s := sum(number, slices.Concat(length, record))
	return slices.Concat([]byte{mark}, length, s, record)
}

// frames: records as they stand on a tape, from the first one on.
func frames(records ...[]byte) []byte {
	var b []byte
	for i, r := range records {
		b = append(b, frame(1, i, r)...)
	}
	return b
}

// text: so many bytes, unlike those of another salt.
func text(n int, salt byte) []byte {
	b := make([]byte, n)
	for i := range b {
		b[i] = byte(i)*7 + byte(i>>8) + salt
	}
	return b
}

// texts: a record of each of these lengths.
func texts(lengths ...int) [][]byte {
	var l [][]byte
	for i, n := range lengths {
		l = append(l, text(n, byte(i*31+1)))
	}
	return l
}

// junk fills all pages of a drum with one byte; and that is safe.
func junk(t *testing.T, d *drum.Drum, c byte) {
	t.Helper()
	for at := range d.Pages() {
		ok(t, d.Write(at, bytes.Repeat([]byte{c}, size)))
	}
	ok(t, d.Flush())
}

// lay writes bytes from a place on, counted from the drum's beginning, and nothing else; and that is safe.
func lay(t *testing.T, d *drum.Drum, place int, b []byte) {
	t.Helper()
	for i := 0; i < len(b); {
		at, from := (place+i)/size, (place+i)%size
		page, e := d.Read(at)
		ok(t, e)
		i += copy(page[from:], b[i:])
		ok(t, d.Write(at, page))
	}
	ok(t, d.Flush())
}

// all: the bytes of a drum.
func all(t *testing.T, d *drum.Drum) []byte {
	t.Helper()
	var b []byte
	for at := range d.Pages() {
		page, e := d.Read(at)
		ok(t, e)
		b = append(b, page...)
	}
	return b
}

func ok(t *testing.T, e api.Errno) {
	t.Helper()
	if e != api.OK {
		t.Fatalf("error %d", e)
	}
}

func same(a, b [][]byte) bool { return slices.EqualFunc(a, b, bytes.Equal) }

// lengths: for telling what was found.
func lengths(l [][]byte) []int {
	var n []int
	for _, r := range l {
		n = append(n, len(r))
	}
	return n
}

// half: the pages of a half, by the chapter's words: its first one, and the one behind its last.
func half(pages, which int) (lo, hi int) {
	n := (pages - 1) / 2
	if which == 0 {
		return 1, n + 1
	}
	return n + 1, 2*n + 1
}

// longest: how many bytes a snapshot has at most.
func longest(pages int) int {
	lo, hi := half(pages, 0)
	return (hi-lo-1)*size - head
}

// opened: the drum opens, with just this snapshot and these records.
func opened(t *testing.T, d *drum.Drum, snapshot []byte, records ...[]byte) *pair.Pair {
	t.Helper()
	p, b, l, e := pair.Open(d)
	if e != api.OK || p == nil || !bytes.Equal(b, snapshot) || !same(l, records) || p.Count() != len(records) {
		t.Fatalf("Open: %d bytes, %v, %d, Count %d; want %d bytes, %v", len(b), lengths(l), e, p.Count(), len(snapshot), lengths(records))
	}
	return p
}

// refused: the drum opens with this error and nothing beside it.
func refused(t *testing.T, d *drum.Drum, want api.Errno) {
	t.Helper()
	if p, b, l, e := pair.Open(d); e != want || p != nil || len(b) != 0 || len(l) != 0 {
		t.Fatalf("Open: %v, %d bytes, %v, %d; want %d", p, len(b), lengths(l), e, want)
	}
}

// state is what a raw hand has laid on a drum of junk: which half counts, its snapshot (whole: it has one), its records.
type state struct {
	pages    int
	which    int
	whole    bool
	snapshot int
	records  []int
}

func (s state) bytes() []byte { return text(s.snapshot, 3) }

// made: the drum as the state says. Whatever plays no part is junk.
func (s state) made(t *testing.T) *drum.Drum {
	t.Helper()
	d := drum.New(s.pages)
	junk(t, d, 1)
	lay(t, d, 0, []byte{byte(s.which)})
	lo, hi := half(s.pages, s.which)
	if s.whole {
		lay(t, d, lo*size, snap(s.bytes()))
	} else {
		lay(t, d, lo*size, make([]byte, head))
	}
	lo += takes(s.snapshot)
	b := append(frames(texts(s.records...)...), 0)
	lay(t, d, lo*size, b[:min(len(b), (hi-lo)*size)])
	return d
}

// met: the drum, and a pair that is open on it.
func (s state) met(t *testing.T) (*drum.Drum, *pair.Pair) {
	t.Helper()
	d := s.made(t)
	return d, opened(t, d, s.bytes(), texts(s.records...)...)
}

// states: those that calls are tried on, with the edges of pages and halves.
func states() []state {
	return []state{
		{5, 0, false, 0, nil},
		{5, 1, false, 0, []int{3, 0}},
		{5, 0, true, 0, nil},
		{5, 1, true, 244, []int{244}}, // as much as goes in
		{6, 1, true, 243, []int{1}},
		{6, 0, true, 2, nil},
		{7, 1, true, 245, []int{5}}, // a byte behind the end of a page
		{7, 0, true, 500, nil},
		{8, 0, true, 499, []int{10, 20}},
		{9, 1, true, 501, nil},
		{9, 0, true, 756, []int{100}},
		{9, 1, false, 0, []int{600, 100}},
		{14, 1, true, 700, []int{3, 4, 500}},
	}
}

// The heads below were worked out apart from the program.

func TestP5_1_BytesOfSnapshots(t *testing.T) {
	for _, c := range []struct {
		snapshot []byte
		head     string
	}{
		{nil, "000000000000000000000001"},
		{[]byte("hi"), "00000002000136ea81e348ca"},
		{make([]byte, 12), "0000000c07689405251532eb"},
		{bytes.Repeat([]byte("a"), 244), "000000f4171befa01bcde0bc"},
		{bytes.Repeat([]byte("z"), 756), "000002f417abcef51dbde4e4"},
		{bytes.Repeat([]byte("q"), 65537), "00010001165e99d06847a11f"},
		{bytes.Repeat([]byte("x"), 523764), "0007fdf42d9e123da2e5e35c"},
	} {
		d := drum.New(4096)
		p := opened(t, d, nil)
		ok(t, p.Save(c.snapshot))
		got := all(t, d)[2048*size:]
		if hex.EncodeToString(got[:head]) != c.head {
			t.Errorf("%d bytes: %x, want %s", len(c.snapshot), got[:head], c.head)
		}
		if !bytes.Equal(got[head:head+len(c.snapshot)], c.snapshot) {
			t.Errorf("%d bytes: they aren't the snapshot's", len(c.snapshot))
		}
		opened(t, d, c.snapshot)
	}
}

func TestP5_1_Examples(t *testing.T) {
	d := drum.New(9)
	p := opened(t, d, nil)
	// Three pages for records: one of as many bytes, and one more byte has no room.
	if e := p.Append(make([]byte, 3*size-head+1)); e != api.ErrFull {
		t.Errorf("more than three pages: %d", e)
	}
	ok(t, p.Append(text(3*size-head, 2)))
	ops := d.Ops()
	ok(t, p.Save([]byte("hi")))
	if d.Ops()-ops != 5 {
		t.Errorf("%d raw operations", d.Ops()-ops)
	}
	got := all(t, d)
	if got[0] != 1 || !bytes.HasPrefix(got[5*size:], slices.Concat([]byte{0, 0, 0, 2}, sum(2, []byte("hi")), []byte("hi"))) {
		t.Errorf("page 0: %x, page 5: %x", got[0], got[5*size:5*size+14])
	}
	if e := p.Save(make([]byte, 757)); e != api.ErrLong {
		t.Errorf("757 bytes: %d", e)
	}
	opened(t, d, []byte("hi"))
	ok(t, p.Save(make([]byte, 756)))
	opened(t, d, make([]byte, 756))
}

func TestP5_1_NilPairAndNilDrum(t *testing.T) {
	var p *pair.Pair
	if p.Count() != 0 {
		t.Error("Count of a nil pair")
	}
	for _, n := range []int{0, 1, most, most + 1, 1 << 20} {
		if e := p.Append(make([]byte, n)); e != api.ErrNil {
			t.Errorf("Append of %d bytes to a nil pair: %d", n, e)
		}
		if e := p.Save(make([]byte, n)); e != api.ErrNil {
			t.Errorf("Save of %d bytes by a nil pair: %d", n, e)
		}
	}
	refused(t, nil, api.ErrNil)
}

func TestP5_1_FewerThanFivePages(t *testing.T) {
	for pages := 1; pages <= 9; pages++ {
		for _, first := range []byte{0, 1, 2} {
			for _, down := range []bool{false, true} {
				d := drum.New(pages)
				lay(t, d, 0, []byte{first})
				ops := d.Ops()
				if down {
					d.Off(0)
				}
				switch {
				case pages < 5:
					refused(t, d, api.ErrArg)
				case down:
					refused(t, d, api.ErrDown)
				case first > 1:
					refused(t, d, api.ErrForm)
				default:
					opened(t, d, nil)
				}
				if d.Ops() != ops {
					t.Fatalf("%d pages: %d raw operations", pages, d.Ops()-ops)
				}
			}
		}
	}
}

// Where the halves are: even and odd numbers of pages, and all that is outside them stays junk.
func TestP5_1_TheHalves(t *testing.T) {
	for pages := 5; pages <= 13; pages++ {
		for which := range 2 {
			d, p := state{pages, 1 - which, false, 0, nil}.met(t)
			was := all(t, d)
			ok(t, p.Save([]byte("hi")))
			lo, hi := half(pages, which)
			want := slices.Clone(was)
			clear(want[:size])
			want[0] = byte(which)
			clear(want[lo*size : (lo+2)*size])
			copy(want[lo*size:], snap([]byte("hi")))
			if !bytes.Equal(all(t, d), want) {
				t.Fatalf("%d pages, half %d: another page was written", pages, which)
			}
			// The tape goes to the half's end, and not beyond it.
			left := (hi - lo - 1) * size
			if e := p.Append(make([]byte, left-head+1)); e != api.ErrFull {
				t.Fatalf("%d pages, half %d: a byte too many: %d", pages, which, e)
			}
			ok(t, p.Append(text(left-head, 8)))
			copy(want[(lo+1)*size:hi*size], frame(1, 0, text(left-head, 8)))
			if !bytes.Equal(all(t, d), want) {
				t.Fatalf("%d pages, half %d: a record stands elsewhere", pages, which)
			}
			opened(t, d, []byte("hi"), text(left-head, 8))
		}
	}
}

func TestP5_1_WhichHalfCounts(t *testing.T) {
	for first := range 256 {
		for _, rest := range []byte{0, 1, 2, 255} {
			d := drum.New(8)
			page := bytes.Repeat([]byte{rest}, size)
			page[0] = byte(first)
			ok(t, d.Write(0, page))
			for which := range 2 {
				lo, _ := half(8, which)
				lay(t, d, lo*size, snap([]byte{byte(which), 9}))
				lay(t, d, (lo+1)*size, frames([]byte{byte(which), 7}))
			}
			if first > 1 {
				refused(t, d, api.ErrForm)
			} else {
				opened(t, d, []byte{byte(first), 9}, []byte{byte(first), 7})
			}
		}
	}
	// Of page 0 nothing else plays a part.
	r := rand.New(rand.NewSource(5))
	for range 100 {
		s := states()[r.Intn(len(states()))]
		d := s.made(t)
		rest := make([]byte, size-1)
		r.Read(rest)
		lay(t, d, 1, rest)
		opened(t, d, s.bytes(), texts(s.records...)...)
	}
}

// What stands on the half that doesn't count plays no part, nor does the last of an even number of pages.
func TestP5_1_TheOtherHalfPlaysNoPart(t *testing.T) {
	r := rand.New(rand.NewSource(6))
	for _, s := range states() {
		for _, c := range []byte{0, 1, 2, 255} {
			d := s.made(t)
			lo, hi := half(s.pages, 1-s.which)
			lay(t, d, lo*size, bytes.Repeat([]byte{c}, (hi-lo)*size))
			if s.pages%2 == 0 {
				lay(t, d, (s.pages-1)*size, bytes.Repeat([]byte{c}, size))
			}
			opened(t, d, s.bytes(), texts(s.records...)...)
			b := make([]byte, (hi-lo)*size)
			r.Read(b)
			lay(t, d, lo*size, b)
			opened(t, d, s.bytes(), texts(s.records...)...)
		}
	}
}

func TestP5_1_NoSnapshot(t *testing.T) {
	for _, which := range []int{0, 1} {
		for _, behind := range []byte{0, 1, 255} {
			d := drum.New(11)
			junk(t, d, behind)
			lay(t, d, 0, []byte{byte(which)})
			lo, hi := half(11, which)
			lay(t, d, lo*size, make([]byte, head))
			b := frames(texts(5, 0, 300)...)
			lay(t, d, (lo+1)*size, append(b, 0))
			p := opened(t, d, nil, texts(5, 0, 300)...)
			left := (hi-lo-1)*size - len(b)
			if e := p.Append(make([]byte, left-head+1)); e != api.ErrFull {
				t.Errorf("half %d: a byte too many: %d", which, e)
			}
			ok(t, p.Append(text(left-head, 1)))
		}
	}
	// Any of the twelve bytes makes it a snapshot.
	for i := range head {
		for _, c := range []byte{1, 2, 255} {
			d := drum.New(9)
			lay(t, d, size+i, []byte{c})
			switch {
			case i == 11 && c == 1:
				opened(t, d, nil) // the seal of no bytes
			case i < 4 && int(c)<<(8*(3-i)) > longest(9):
				refused(t, d, api.ErrForm)
			default:
				refused(t, d, api.ErrSum)
			}
		}
	}
	// A thirteenth doesn't.
	d := drum.New(9)
	lay(t, d, size+head, []byte{1})
	opened(t, d, nil)
}

// Snapshots that end at the edges of pages and of what a half can hold, opened where a raw hand has laid them.
func TestP5_1_OpenFindsSnapshots(t *testing.T) {
	for _, pages := range []int{5, 6, 7, 8, 9, 10, 15} {
		edge := longest(pages)
		for _, n := range []int{0, 1, 2, 12, 243, 244, 245, 499, 500, 501, 755, 756, 757, edge - 1, edge} {
			if n > edge {
				continue
			}
			for which := range 2 {
				for _, records := range [][]int{nil, {0}, {1, 2, 3}, {232}, {244}} {
					s := state{pages, which, true, n, records}
					d := s.made(t)
					was, ops := all(t, d), d.Ops()
					opened(t, d, s.bytes(), texts(records...)...)
					if d.Ops() != ops || !bytes.Equal(all(t, d), was) {
						t.Fatalf("%+v: Open changed the drum", s)
					}
				}
			}
		}
	}
	s := state{4096, 1, true, longest(4096), []int{7}}
	opened(t, s.made(t), s.bytes(), texts(7)...)
	s = state{4095, 0, true, longest(4095), []int{7}}
	opened(t, s.made(t), s.bytes(), texts(7)...)
}

// A number of bytes that would leave no page is told ahead of the seal, whatever the seal is.
func TestP5_1_NoPageLeft(t *testing.T) {
	for _, pages := range []int{5, 6, 7, 8, 9, 10, 4095, 4096} {
		edge := longest(pages)
		for which := range 2 {
			lo, hi := half(pages, which)
			for _, n := range []int{edge, edge + 1, edge + 2, edge + size - 1, edge + size, edge + size + 1, edge + 2*size, pages * size, 1 << 24, 1<<31 - 1, 1 << 31, 1<<32 - 1} {
				d := drum.New(pages)
				lay(t, d, 0, []byte{byte(which)})
				lay(t, d, lo*size, slices.Concat(four(n), make([]byte, 8)))
				if n == edge {
					refused(t, d, api.ErrSum)
				} else {
					refused(t, d, api.ErrForm)
				}
				if n > edge && n <= (hi-lo)*size-head {
					// It would be whole, if it might take that page.
					lay(t, d, lo*size, snap(text(n, 9)))
					refused(t, d, api.ErrForm)
				}
			}
		}
	}
}

func TestP5_1_AnotherSeal(t *testing.T) {
	for _, n := range []int{0, 1, 2, 30, 244, 245, 300} {
		good := snap(text(n, 50))
		for i := range good {
			if i < 4 {
				continue
			}
			for _, flip := range []byte{1, 0x10, 0x80} {
				d := drum.New(7)
				lay(t, d, size, good)
				lay(t, d, size+i, []byte{good[i] ^ flip})
				if n == 0 && i == 11 && flip == 1 {
					opened(t, d, nil) // twelve noughts
				} else {
					refused(t, d, api.ErrSum)
				}
			}
		}
	}
}

// Of a number of bytes that is another one the seal is too, by its seed.
func TestP5_1_TheNumberIsSealed(t *testing.T) {
	for n := range 60 {
		d := drum.New(5)
		lay(t, d, size, snap(make([]byte, 40)))
		lay(t, d, size+3, []byte{byte(n)})
		if n == 40 {
			opened(t, d, make([]byte, 40))
		} else {
			refused(t, d, api.ErrSum)
		}
	}
	for seed := range 9 {
		d := drum.New(5)
		lay(t, d, size, slices.Concat(four(5), sum(seed, text(5, 1)), text(5, 1)))
		if seed == 5 {
			opened(t, d, text(5, 1))
		} else {
			refused(t, d, api.ErrSum)
		}
	}
}

// What stands behind the half's snapshot is told as layer 4 tells it.
func TestP5_1_ErrorsOfTheTape(t *testing.T) {
	good := frame(1, 0, []byte("hi"))
	spoilt := slices.Clone(good)
	spoilt[5] ^= 1
	for _, s := range []state{{9, 0, true, 300, nil}, {9, 1, true, 244, nil}, {9, 1, false, 0, nil}, {5, 0, true, 1, nil}} {
		lo, hi := half(s.pages, s.which)
		place := (lo + takes(s.snapshot)) * size
		for _, c := range []struct {
			what string
			b    []byte
			want api.Errno
		}{
			{"a mark", []byte{2}, api.ErrForm},
			{"a mark behind a record", append(slices.Clone(good), 255), api.ErrForm},
			{"a length beyond the half", slices.Concat([]byte{1}, four(hi*size - place - head + 1)[1:]), api.ErrForm},
			{"a length above the highest", []byte{1, 1, 0, 1}, api.ErrForm},
			{"a seal", spoilt, api.ErrSum},
			{"a seal behind a record", append(slices.Clone(good), spoilt...), api.ErrSum},
			{"a record with another number", frame(1, 1, []byte("hi")), api.ErrSum},
			{"none", []byte{0, 9, 9, 9}, api.OK},
		} {
			t.Run(c.what, func(t *testing.T) {
				d := s.made(t)
				lay(t, d, place, c.b)
				if c.want == api.OK {
					opened(t, d, s.bytes())
				} else {
					refused(t, d, c.want)
				}
				d.Off(0)
				refused(t, d, api.ErrDown)
			})
		}
	}
}

func TestP5_1_WhichErrorOfOpen(t *testing.T) {
	spoilt := snap(text(20, 1))
	spoilt[9] ^= 4
	for _, c := range []struct {
		what     string
		first    byte
		snapshot []byte
		tape     byte
		want     api.Errno
	}{
		{"the half, the snapshot, the tape", 2, four(9999), 7, api.ErrForm},
		{"the half and the seal", 2, spoilt, 0, api.ErrForm},
		{"the half alone", 255, snap(text(20, 1)), 0, api.ErrForm},
		{"the number of bytes and the tape", 0, four(9999), 1, api.ErrForm},
		{"the seal and the tape's mark", 0, spoilt, 7, api.ErrSum},
		{"the seal and the tape's seal", 0, spoilt, 1, api.ErrSum},
		{"the tape's mark", 0, snap(text(20, 1)), 7, api.ErrForm},
		{"the tape's seal", 0, snap(text(20, 1)), 1, api.ErrSum},
	} {
		for _, pages := range []int{4, 7} {
			t.Run(c.what, func(t *testing.T) {
				d := drum.New(pages)
				lay(t, d, 0, []byte{c.first})
				lay(t, d, size, c.snapshot)
				lay(t, d, 2*size, []byte{c.tape})
				want, down := c.want, api.ErrDown
				if pages < 5 {
					want, down = api.ErrArg, api.ErrArg
				}
				refused(t, d, want)
				d.Off(0)
				refused(t, d, down)
			})
		}
	}
}

// raw is a raw operation: a Write of a page, or, without one, a Flush.
type raw struct {
	at   int
	page []byte
}

// toldSave: the raw operations of a Save by the chapter's words, on this half.
func toldSave(pages, which int, b []byte) []raw {
	lo, _ := half(pages, which)
	image := make([]byte, (takes(len(b))+1)*size)
	copy(image, snap(b))
	var l []raw
	for i := range takes(len(b)) + 1 {
		l = append(l, raw{lo + i, image[i*size : (i+1)*size]})
	}
	root := make([]byte, size)
	root[0] = byte(which)
	return append(l, raw{}, raw{0, root}, raw{})
}

// toldAppend: those of an Append by layer 4's words, on a drum of these bytes, behind these records on the stretch.
func toldAppend(was []byte, lo, hi int, records [][]byte, record []byte) []raw {
	b := slices.Clone(was[lo*size : hi*size])
	place := len(frames(records...))
	end := place + copy(b[place:], frame(0, len(records), record))
	last := (end - 1) / size
	if end < len(b) {
		last = end / size
		clear(b[end : (last+1)*size])
	}
	var l []raw
	for p := place / size; p <= last; p++ {
		l = append(l, raw{lo + p, slices.Clone(b[p*size : (p+1)*size])})
	}
	l = append(l, raw{})
	b[place] = 1
	p := place / size
	return append(l, raw{lo + p, b[p*size : (p+1)*size]}, raw{})
}

// do makes raw operations, up to the first error.
func do(d *drum.Drum, l []raw) api.Errno {
	for _, r := range l {
		e := api.OK
		if r.page == nil {
			e = d.Flush()
		} else {
			e = d.Write(r.at, r.page)
		}
		if e != api.OK {
			return e
		}
	}
	return api.OK
}

// saves: how many bytes are saved over a state: all edges of pages that its halves can hold.
func (s state) saves() []int {
	edge := longest(s.pages)
	var l []int
	for _, n := range []int{0, 2, 243, 244, 245, 500, 501, edge - 1, edge} {
		if n <= edge {
			l = append(l, n)
		}
	}
	slices.Sort(l)
	return slices.Compact(l)
}

func TestP5_1_RawOperationsOfSave(t *testing.T) {
	for _, s := range states() {
		for _, n := range s.saves() {
			d, p := s.met(t)
			twin := s.made(t)
			b := text(n, 99)
			l := toldSave(s.pages, 1-s.which, b)
			if e := p.Save(b); e != api.OK || p.Count() != 0 {
				t.Fatalf("%+v: Save of %d bytes: %d, Count %d", s, n, e, p.Count())
			}
			ok(t, do(twin, l))
			if d.Ops() != twin.Ops() || len(l) != takes(n)+4 || !bytes.Equal(all(t, d), all(t, twin)) {
				t.Fatalf("%+v: Save of %d bytes: %d raw operations, want %d", s, n, d.Ops(), twin.Ops())
			}
			// All is safe.
			d.Off(0)
			d.On()
			if !bytes.Equal(all(t, d), all(t, twin)) {
				t.Fatalf("%+v: something waited behind the Save", s)
			}
			opened(t, d, b)
		}
	}
}

// tapeOf: the stretch of the state's tape.
func (s state) tapeOf() (lo, hi int) {
	lo, hi = half(s.pages, s.which)
	return lo + takes(s.snapshot), hi
}

// appends: how many bytes are appended to a state: all edges of what is left.
func (s state) appends() []int {
	lo, hi := s.tapeOf()
	left := (hi-lo)*size - len(frames(texts(s.records...)...)) - head
	var l []int
	for _, n := range []int{0, 1, 100, 232, 233, 243, 244, 245, left - 1, left} {
		if n >= 0 && n <= left {
			l = append(l, n)
		}
	}
	slices.Sort(l)
	return slices.Compact(l)
}

func TestP5_1_RawOperationsOfAppend(t *testing.T) {
	for _, s := range states() {
		lo, hi := s.tapeOf()
		for _, n := range s.appends() {
			d, p := s.met(t)
			twin := s.made(t)
			ahead, record := texts(s.records...), text(n, 99)
			l := toldAppend(all(t, d), lo, hi, ahead, record)
			if e := p.Append(record); e != api.OK || p.Count() != len(ahead)+1 {
				t.Fatalf("%+v: Append of %d bytes: %d, Count %d", s, n, e, p.Count())
			}
			ok(t, do(twin, l))
			if d.Ops() != twin.Ops() || !bytes.Equal(all(t, d), all(t, twin)) {
				t.Fatalf("%+v: Append of %d bytes: %d raw operations, want %d", s, n, d.Ops(), twin.Ops())
			}
			opened(t, d, s.bytes(), append(ahead, record)...)
		}
	}
}

// Saves and records by turns: each half counts every other time, and the records go with the snapshot.
func TestP5_1_SavesByTurns(t *testing.T) {
	for _, pages := range []int{5, 6, 9, 12} {
		d := drum.New(pages)
		junk(t, d, 1)
		lay(t, d, 0, []byte{0})
		lay(t, d, size, make([]byte, head))
		lay(t, d, 2*size, []byte{0})
		p := opened(t, d, nil)
		var snapshot []byte
		for i := range 12 {
			var records [][]byte
			for j := range i % 4 {
				record := text(j*20, byte(i))
				ok(t, p.Append(record))
				records = append(records, record)
				if p.Count() != j+1 {
					t.Fatalf("Count %d", p.Count())
				}
			}
			q := opened(t, d, snapshot, records...)
			if i%3 == 0 {
				p = q
			}
			snapshot = text(i*longest(pages)/11, byte(i))
			ok(t, p.Save(snapshot))
			if p.Count() != 0 {
				t.Fatalf("Count %d behind a Save", p.Count())
			}
			if page, _ := d.Read(0); int(page[0]) != (i+1)%2 {
				t.Fatalf("Save %d: the half %d", i, page[0])
			}
			opened(t, d, snapshot)
		}
	}
}

func TestP5_1_WhichErrorOfAppendAndSave(t *testing.T) {
	long := make([]byte, most+1)
	d, p := state{7, 0, true, 3, []int{4}}.met(t)
	edge := longest(7)
	told := func(what string, got, want api.Errno) {
		t.Helper()
		if got != want {
			t.Fatalf("%s: %d, want %d", what, got, want)
		}
	}
	was, ops := all(t, d), d.Ops()
	told("Append: long and full", p.Append(long), api.ErrLong)
	told("Append: full", p.Append(long[:2*size]), api.ErrFull)
	told("Save: long", p.Save(long), api.ErrLong)
	told("Save: a byte too long", p.Save(long[:edge+1]), api.ErrLong)
	d.Off(0)
	told("Append: long, full and down", p.Append(long), api.ErrLong)
	told("Save: long and down", p.Save(long[:edge+1]), api.ErrLong)
	d.On()
	if d.Ops() != ops || !bytes.Equal(all(t, d), was) || p.Count() != 1 {
		t.Fatal("what was refused did something")
	}
	told("what was refused is no error that was met", p.Append([]byte("ho")), api.OK)
	told("nor for a Save", p.Save([]byte("ho")), api.OK)
	told("Append behind a Save", p.Append([]byte("he")), api.OK)

	d.Off(0)
	told("Save: down", p.Save([]byte("hu")), api.ErrDown)
	d.On()
	was, ops = all(t, d), d.Ops()
	for range 3 {
		told("Append behind it", p.Append([]byte("x")), api.ErrDown)
		told("Append behind it: none", p.Append(nil), api.ErrDown)
		told("Append behind it: long", p.Append(long), api.ErrDown)
		told("Append behind it: full", p.Append(long[:2*size]), api.ErrDown)
		told("Save behind it", p.Save([]byte("x")), api.ErrDown)
		told("Save behind it: none", p.Save(nil), api.ErrDown)
		told("Save behind it: as long as can be", p.Save(long[:edge]), api.ErrDown)
		told("Save behind it: long", p.Save(long[:edge+1]), api.ErrLong)
	}
	if d.Ops() != ops || !bytes.Equal(all(t, d), was) || p.Count() != 1 {
		t.Error("a call behind an error did something")
	}
	p = opened(t, d, []byte("ho"), []byte("he"))
	told("opened anew", p.Append([]byte("x")), api.OK)
	told("opened anew", p.Save([]byte("x")), api.OK)
	opened(t, d, []byte("x"))
}

// An error that an Append met is one of its tape: a Save makes another one.
func TestP5_1_SaveBehindAnErrorOfAppend(t *testing.T) {
	for n := 0; n <= 4; n++ {
		for _, k := range []int{0, 17, 1000} {
			d, p := state{7, 1, true, 3, []int{4}}.met(t)
			if n == 0 {
				d.Off(k)
			} else {
				d.Arm(n, k)
			}
			for range 2 {
				if e := p.Append([]byte("ho")); e != api.ErrDown {
					t.Fatalf("%d: Append: %d", n, e)
				}
				d.On()
			}
			ops := d.Ops()
			if e := p.Save(text(100, 1)); e != api.OK || d.Ops()-ops != 5 || p.Count() != 0 {
				t.Fatalf("%d: Save: %d, %d raw operations, Count %d", n, e, d.Ops()-ops, p.Count())
			}
			ok(t, p.Append([]byte("he")))
			opened(t, d, text(100, 1), []byte("he"))
		}
	}
}

// A loss of power that no call met is no error of the pair.
func TestP5_1_ThePowerGoesBetweenCalls(t *testing.T) {
	d := drum.New(9)
	p := opened(t, d, nil)
	for i, r := range texts(1, 240, 7) {
		ok(t, p.Save(r))
		d.Off(i * 100)
		d.On()
		ok(t, p.Append(r))
		d.Off(i * 100)
		if p.Count() != 1 {
			t.Errorf("Count %d", p.Count())
		}
		d.On()
		opened(t, d, r, r)
	}
}

// kinds: how many bytes may be kept, with all edges of pages up to so many of them, and of heads.
func kinds(pages int) []int {
	l := []int{math.MinInt, -1, 0, 1, 2, 3, 4, 5, 11, 12, 13, math.MaxInt}
	for edge := size; edge <= pages*size; edge += size {
		l = append(l, edge-1, edge, edge+1, edge+2, edge+head)
	}
	return l
}

// lostSave: the power goes in the n-th raw operation of a Save, with k: the drum is what the told operations make of it, and behind it all is as the chapter says.
func (s state) lostSave(t *testing.T, bytesOf, n, k int) {
	t.Helper()
	d, p := s.met(t)
	twin := s.made(t)
	b, records := text(bytesOf, 99), texts(s.records...)
	l := toldSave(s.pages, 1-s.which, b)
	d.Arm(n, k)
	twin.Arm(n, k)
	want := do(twin, l)
	if e := p.Save(b); e != want || e != api.ErrDown || d.Ops() != twin.Ops() || !d.Down() {
		t.Fatalf("%+v, %d, %d, %d: Save: %d, %d raw operations; want %d, %d", s, bytesOf, n, k, e, d.Ops(), want, twin.Ops())
	}
	d.On()
	twin.On()
	was, ops := all(t, d), d.Ops()
	if !bytes.Equal(was, all(t, twin)) {
		t.Fatalf("%+v, %d, %d, %d: the drum isn't what the raw operations make of it", s, bytesOf, n, k)
	}
	if p.Save(nil) != api.ErrDown || p.Append(nil) != api.ErrDown || p.Save(b) != api.ErrDown || p.Count() != len(records) {
		t.Fatalf("%+v, %d, %d, %d: behind the error: Count %d", s, bytesOf, n, k, p.Count())
	}
	// It is the new one just if the first byte of page 0 was kept; that is the last write, behind the first Flush.
	snapshot := s.bytes()
	if n >= len(l)-1 && k > 0 {
		snapshot, records = b, nil
	}
	for range 2 {
		opened(t, d, snapshot, records...)
	}
	if d.Ops() != ops || !bytes.Equal(all(t, d), was) {
		t.Fatalf("%+v, %d, %d, %d: something was done behind the error", s, bytesOf, n, k)
	}
	goesOn(t, d, snapshot, records)
}

// goesOn: what was found takes another snapshot, and a record behind it.
func goesOn(t *testing.T, d *drum.Drum, snapshot []byte, records [][]byte) {
	t.Helper()
	p := opened(t, d, snapshot, records...)
	switch e := p.Append([]byte("more")); e {
	case api.OK:
		records = append(slices.Clone(records), []byte("more"))
	case api.ErrFull:
	default:
		t.Fatalf("Append: %d", e)
	}
	p = opened(t, d, snapshot, records...)
	next := text(longest(d.Pages()), 123)
	ok(t, p.Save(next))
	ok(t, p.Append([]byte("next")))
	opened(t, d, next, []byte("next"))
}

func TestP5_2_ThePowerGoesInEachRawOperationOfSave(t *testing.T) {
	for _, s := range states() {
		for _, bytesOf := range s.saves() {
			ops := takes(bytesOf) + 4
			for n := 1; n <= ops; n++ {
				for _, k := range kinds(takes(bytesOf) + 2) {
					s.lostSave(t, bytesOf, n, k)
				}
			}
		}
	}
}

func TestP5_2_EveryNumberOfBytesKeptOfSave(t *testing.T) {
	for _, s := range []state{{5, 1, true, 9, []int{3}}, {7, 0, true, 300, []int{3, 5}}} {
		for n := 1; n <= 6; n++ {
			for k := range 3*size + 2 {
				bytesOf := longest(s.pages)
				if n <= takes(bytesOf)+4 {
					s.lostSave(t, bytesOf, n, k)
				}
			}
		}
	}
}

func TestP5_2_TheLongestSnapshot(t *testing.T) {
	s := state{4096, 1, true, 700, []int{3}}
	bytesOf := longest(4096)
	for _, n := range []int{1, 2, 1000, 2046, 2047, 2048, 2049, 2050} {
		for _, k := range []int{0, 1, size, 60000, 1 << 20} {
			s.lostSave(t, bytesOf, n, k)
		}
	}
}

// lostAppend: as lostSave, of an Append.
func (s state) lostAppend(t *testing.T, bytesOf, n, k int) {
	t.Helper()
	d, p := s.met(t)
	twin := s.made(t)
	record, ahead := text(bytesOf, 99), texts(s.records...)
	lo, hi := s.tapeOf()
	l := toldAppend(all(t, d), lo, hi, ahead, record)
	d.Arm(n, k)
	twin.Arm(n, k)
	want := do(twin, l)
	if e := p.Append(record); e != want || e != api.ErrDown || d.Ops() != twin.Ops() {
		t.Fatalf("%+v, %d, %d, %d: Append: %d, %d raw operations; want %d, %d", s, bytesOf, n, k, e, d.Ops(), want, twin.Ops())
	}
	d.On()
	twin.On()
	was, ops := all(t, d), d.Ops()
	if !bytes.Equal(was, all(t, twin)) {
		t.Fatalf("%+v, %d, %d, %d: the drum isn't what the raw operations make of it", s, bytesOf, n, k)
	}
	if p.Append(nil) != api.ErrDown || p.Append(record) != api.ErrDown || p.Count() != len(ahead) {
		t.Fatalf("%+v, %d, %d, %d: behind the error: Count %d", s, bytesOf, n, k, p.Count())
	}
	// It is there just if its mark was kept; that is of the last write, behind the first Flush.
	if n >= len(l)-1 && k > len(frames(ahead...))%size {
		ahead = append(ahead, record)
	}
	for range 2 {
		opened(t, d, s.bytes(), ahead...)
	}
	if d.Ops() != ops || !bytes.Equal(all(t, d), was) {
		t.Fatalf("%+v, %d, %d, %d: something was done behind the error", s, bytesOf, n, k)
	}
	goesOn(t, d, s.bytes(), ahead)
}

func TestP5_2_ThePowerGoesInEachRawOperationOfAppend(t *testing.T) {
	for _, s := range states() {
		lo, hi := s.tapeOf()
		ahead := texts(s.records...)
		at := len(frames(ahead...)) % size
		for _, bytesOf := range s.appends() {
			ops := len(toldAppend(make([]byte, s.pages*size), lo, hi, ahead, text(bytesOf, 99)))
			for n := 1; n <= ops; n++ {
				for _, k := range append(kinds(ops-3), at-1, at, at+1, at+head) {
					s.lostAppend(t, bytesOf, n, k)
				}
			}
		}
	}
}

// What stood on the other half, however well it is made, never counts behind a Save.
func TestP5_2_OverWhatStoodThere(t *testing.T) {
	for _, pages := range []int{5, 9, 10} {
		lo, hi := half(pages, 1)
		// Whole pages, so that old records begin just where a new tape begins, and where new records end.
		var old [][]byte
		for i := range hi - lo - 1 {
			old = append(old, text(244, byte(i)))
		}
		for _, bytesOf := range []int{0, 244, longest(pages)} {
			for n := 0; n <= takes(bytesOf)+4; n++ {
				for _, k := range []int{-1, 0, 1, 4, 12, 255, 256, 257, 511, 512, 513, 2000} {
					d := drum.New(pages)
					lay(t, d, lo*size, slices.Concat(snap(text(244, 9)), frames(old...)))
					p := opened(t, d, nil)
					ok(t, p.Append([]byte("one")))
					d.Arm(n, k)
					e := p.Save(text(bytesOf, 200))
					d.On()
					switch {
					case n == 0 && e == api.OK || n >= takes(bytesOf)+3 && k > 0 && e == api.ErrDown:
						opened(t, d, text(bytesOf, 200))
					case e == api.ErrDown:
						opened(t, d, nil, []byte("one"))
					default:
						t.Fatalf("%d pages, %d bytes, %d, %d: Save: %d", pages, bytesOf, n, k, e)
					}
					if n > 0 {
						continue
					}
					for i := range hi - lo - takes(bytesOf) {
						ok(t, p.Append(text(244, byte(i+100))))
						_, _, l, e := pair.Open(d)
						if e != api.OK || len(l) != i+1 {
							t.Fatalf("%d pages: an old record counts: %v, %d", pages, lengths(l), e)
						}
					}
				}
			}
		}
	}
}

// Losses one behind the other: what was answered is always there.
func TestP5_2_ManyLosses(t *testing.T) {
	r := rand.New(rand.NewSource(55))
	for round := range 300 {
		pages := 5 + r.Intn(12)
		d := drum.New(pages)
		junk(t, d, byte(r.Intn(3)))
		lay(t, d, 0, make([]byte, size+head))
		lay(t, d, 2*size, []byte{0})
		p := opened(t, d, nil)
		var snapshot []byte
		var records [][]byte
		for step := range 40 {
			b := text(r.Intn(1+r.Intn(longest(pages)+20)), byte(step))
			save := r.Intn(4) == 0
			if r.Intn(3) == 0 {
				d.Arm(1+r.Intn(8), r.Intn(1200)-50)
			}
			e, newSnapshot, newRecords := api.OK, snapshot, append(slices.Clone(records), b)
			if save {
				e, newSnapshot, newRecords = p.Save(b), b, nil
			} else {
				e = p.Append(b)
			}
			if e == api.OK {
				snapshot, records = newSnapshot, newRecords
			}
			if !d.Down() {
				d.Arm(0, 0)
				checkRefusal(t, pages, save, b, snapshot, records, e)
				if p.Count() != len(records) {
					t.Fatalf("round %d: Count %d", round, p.Count())
				}
				continue
			}
			if e != api.ErrDown {
				t.Fatalf("round %d: the power went: %d", round, e)
			}
			d.On()
			q, got, l, e := pair.Open(d)
			isOld := bytes.Equal(got, snapshot) && same(l, records)
			isNew := bytes.Equal(got, newSnapshot) && same(l, newRecords)
			if e != api.OK || !isOld && !isNew {
				t.Fatalf("round %d: %d bytes, %v, %d; want %d, %v", round, len(got), lengths(l), e, len(snapshot), lengths(records))
			}
			p, snapshot, records = q, got, l
		}
		opened(t, d, snapshot, records...)
	}
}

// checkRefusal: a call that no loss of power met is refused just if there is no room.
func checkRefusal(t *testing.T, pages int, save bool, b, snapshot []byte, records [][]byte, e api.Errno) {
	t.Helper()
	lo, hi := half(pages, 0)
	left := (hi-lo-takes(len(snapshot)))*size - len(frames(records...))
	switch {
	case e == api.OK:
	case save && e == api.ErrLong && len(b) > longest(pages):
	case !save && e == api.ErrFull && left < head+len(b):
	default:
		t.Fatalf("save %v of %d bytes, %d left: %d", save, len(b), left, e)
	}
}

func TestP5_3_OpenChangesNothing(t *testing.T) {
	for _, s := range states() {
		d := s.made(t)
		lo, _ := half(s.pages, 1-s.which)
		ok(t, d.Write(lo, text(size, 2)))
		ok(t, d.Write(lo+1, text(size, 3)))
		d.Arm(1, size+7)
		was, ops := all(t, d), d.Ops()
		for range 5 {
			opened(t, d, s.bytes(), texts(s.records...)...)
		}
		if d.Ops() != ops || d.Down() || !bytes.Equal(all(t, d), was) {
			t.Fatalf("%+v: Open changed something", s)
		}
		// What is armed still is, and what waits does.
		if e := d.Flush(); e != api.ErrDown {
			t.Fatalf("what was armed isn't: %d", e)
		}
		for range 2 {
			refused(t, d, api.ErrDown)
		}
		d.On()
		want := slices.Clone(was)
		copy(want[(lo+1)*size+7:(lo+2)*size], bytes.Repeat([]byte{1}, size-7))
		if !bytes.Equal(all(t, d), want) {
			t.Fatalf("%+v: what waited was made safe, or lost", s)
		}
		opened(t, d, s.bytes(), texts(s.records...)...)
	}
}

// An opening that is refused changes nothing either, and opens when its reason is gone.
func TestP5_3_RefusedOpeningsChangeNothing(t *testing.T) {
	s := state{9, 0, true, 300, []int{5}}
	for _, c := range []struct {
		place int
		want  api.Errno
	}{
		{0, api.ErrForm}, {size + 1, api.ErrForm}, {size + 5, api.ErrSum}, {2*size + 30, api.ErrSum}, {3 * size, api.ErrForm}, {3*size + 14, api.ErrSum},
	} {
		d := s.made(t)
		was := all(t, d)
		lay(t, d, c.place, []byte{was[c.place] + 2})
		now, ops := all(t, d), d.Ops()
		d.Arm(1, 0)
		for range 3 {
			refused(t, d, c.want)
		}
		if d.Ops() != ops || !bytes.Equal(all(t, d), now) {
			t.Fatalf("place %d: a refused opening did something", c.place)
		}
		d.Arm(0, 0)
		lay(t, d, c.place, was[c.place:c.place+1])
		opened(t, d, s.bytes(), texts(5)...)
	}
}

func TestP5_3_WhatIsRefusedChangesNothing(t *testing.T) {
	for _, s := range states() {
		d, p := s.met(t)
		records := texts(s.records...)
		lo, hi := s.tapeOf()
		left := (hi-lo)*size - len(frames(records...))
		edge := longest(s.pages)
		was, ops := all(t, d), d.Ops()
		d.Arm(1, 5)
		for range 2 {
			for _, n := range []int{max(left-head, -1) + 1, left + 1, 10000, most, most + 1, 1 << 17} {
				want := api.ErrFull
				if n > most {
					want = api.ErrLong
				}
				if e := p.Append(text(n, 4)); e != want {
					t.Fatalf("%+v: Append of %d bytes: %d, want %d", s, n, e, want)
				}
			}
			for _, n := range []int{edge + 1, edge + 2, edge + size, edge + size + 1, edge + 2*size, most, 1 << 20} {
				if e := p.Save(text(n, 4)); e != api.ErrLong {
					t.Fatalf("%+v: Save of %d bytes: %d", s, n, e)
				}
			}
		}
		if d.Ops() != ops || d.Down() || !bytes.Equal(all(t, d), was) || p.Count() != len(records) {
			t.Fatalf("%+v: what was refused did something", s)
		}
		d.Arm(0, 0)
		opened(t, d, s.bytes(), records...)
		// And it can go on.
		ok(t, p.Save(text(edge, 4)))
		ok(t, p.Append([]byte("on")))
		opened(t, d, text(edge, 4), []byte("on"))
	}
}

// On a drum as great as can be.
func TestP5_3_TooLongOnTheGreatestDrum(t *testing.T) {
	for _, pages := range []int{4095, 4096} {
		d := drum.New(pages)
		p := opened(t, d, nil)
		edge := longest(pages)
		if edge != 2046*size-head {
			t.Fatalf("%d bytes", edge)
		}
		for _, n := range []int{edge + 1, 1 << 20, 1 << 24} {
			if e := p.Save(make([]byte, n)); e != api.ErrLong || d.Ops() != 0 {
				t.Fatalf("Save of %d bytes: %d, %d raw operations", n, e, d.Ops())
			}
		}
		ok(t, p.Save(text(edge, 7)))
		if d.Ops() != 2050 {
			t.Errorf("%d raw operations", d.Ops())
		}
		opened(t, d, text(edge, 7))
	}
}

func TestP5_4_WhatIsHandedIn(t *testing.T) {
	room := text(3000, 50)
	was := slices.Clone(room)
	d := drum.New(16)
	p := opened(t, d, nil)
	still := func(got, want api.Errno) {
		t.Helper()
		if got != want {
			t.Fatalf("%d, want %d", got, want)
		}
		if !bytes.Equal(room, was) {
			t.Fatal("what was handed in, or its spare room, was changed")
		}
	}
	for _, c := range []struct{ from, to int }{{10, 12}, {0, 0}, {100, 400}, {7, 500}, {1, 245}, {0, 1524}} {
		still(p.Save(room[c.from:c.to]), api.OK)
		snapshot := slices.Clone(room[c.from:c.to])
		still(p.Append(room[c.from:c.from+30]), api.OK)
		record := slices.Clone(room[c.from : c.from+30])
		// What the caller writes now isn't seen.
		for i := range room {
			room[i]++
		}
		was = slices.Clone(room)
		ok(t, p.Append([]byte{1, 2}))
		p = opened(t, d, snapshot, record, []byte{1, 2})
	}
	still(p.Save(room[:1525]), api.ErrLong)
	still(p.Append(room[:1000]), api.ErrFull)
	for n := 1; n <= 5; n++ {
		d.Arm(n, 100)
		still(p.Save(room[3:9]), api.ErrDown)
		still(p.Save(room[3:9]), api.ErrDown)
		still(p.Append(room[3:9]), api.ErrDown)
		d.On()
		p, _, _, _ = pair.Open(d)
	}
}

func TestP5_4_WhatIsAnsweredIsNewMemory(t *testing.T) {
	for _, snapshot := range []int{0, 3, 244, 300, 500} {
		s := state{15, 1, true, snapshot, []int{3, 0, 5, 300, 1, 244, 0, 2}}
		if snapshot > 300 {
			s.records = []int{2, 232}
		}
		d, p := s.met(t)
		was := all(t, d)
		_, b, l, e := pair.Open(d)
		ok(t, e)
		_, otherB, otherL, e := pair.Open(d)
		ok(t, e)
		lists := append([][]byte{b}, l...)
		want := append([][]byte{s.bytes()}, texts(s.records...)...)
		for i := range lists {
			// Over its own room, spare room included: none of the others is met.
			room := lists[i][:cap(lists[i])]
			for j := range room {
				room[j] = byte(i + 200)
			}
			for j := range lists {
				now := want[j]
				if j <= i {
					now = bytes.Repeat([]byte{byte(j + 200)}, len(now))
				}
				if !bytes.Equal(lists[j], now) {
					t.Fatalf("the lists %d and %d share memory", i, j)
				}
			}
			if !bytes.Equal(otherB, want[0]) || !same(otherL, want[1:]) || !bytes.Equal(all(t, d), was) {
				t.Fatalf("list %d shares memory", i)
			}
		}
		ok(t, p.Append([]byte("one more")))
		opened(t, d, want[0], append(want[1:], []byte("one more"))...)
	}
}

// Two pairs on drums of their own know nothing of one another.
func TestP5_4_TwoPairs(t *testing.T) {
	d, other := drum.New(9), drum.New(9)
	p, q := opened(t, d, nil), opened(t, other, nil)
	ok(t, p.Save([]byte("p")))
	ok(t, p.Append([]byte("one")))
	if q.Count() != 0 || other.Ops() != 0 {
		t.Error("the other pair has seen it")
	}
	other.Off(0)
	if q.Save(nil) != api.ErrDown {
		t.Error("Save while the power is off")
	}
	ok(t, p.Save([]byte("pp")))
	opened(t, d, []byte("pp"))
	other.On()
	opened(t, other, nil)
}

// found: what Open answers, by the chapter's words, of the bytes of a drum.
func found(b []byte) ([]byte, [][]byte, api.Errno) {
	if b[0] > 1 {
		return nil, nil, api.ErrForm
	}
	lo, hi := half(len(b)/size, int(b[0]))
	b = b[lo*size : hi*size]
	if bytes.Equal(b[:head], make([]byte, head)) {
		l, e := records(b[size:])
		return nil, l, e
	}
	n := int(b[0])<<24 + int(b[1])<<16 + int(b[2])<<8 + int(b[3])
	if takes(n) >= hi-lo {
		return nil, nil, api.ErrForm
	}
	snapshot := b[head : head+n]
	if !bytes.HasPrefix(b, snap(snapshot)) {
		return nil, nil, api.ErrSum
	}
	l, e := records(b[takes(n)*size:])
	return snapshot, l, e
}

// records: what layer 4's Open answers of the bytes of a stretch.
func records(b []byte) ([][]byte, api.Errno) {
	var l [][]byte
	for place := 0; len(b)-place >= head && b[place] != 0; {
		n := int(b[place+1])<<16 + int(b[place+2])<<8 + int(b[place+3])
		if b[place] != 1 || n > most || place+head+n > len(b) {
			return nil, api.ErrForm
		}
		end := place + head + n
		record := b[place+head : end]
		if !bytes.Equal(b[place:end], frame(1, len(l), record)) {
			return nil, api.ErrSum
		}
		l = append(l, record)
		place = end
	}
	return l, api.OK
}

// spoilt: a drum's bytes, of a snapshot and records that may be whole or not.
func spoilt(r *rand.Rand, pages int) []byte {
	b := make([]byte, pages*size)
	for i := range b {
		b[i] = byte(r.Intn(3)) * byte(r.Intn(2))
	}
	b[0] = byte(r.Intn(20)) % 3 % 2
	lo, hi := half(pages, int(b[0]))
	h := b[lo*size : hi*size]
	n := r.Intn(1 + r.Intn(longest(pages)+60))
	if r.Intn(4) == 0 {
		n = 0
		clear(h[:head])
	} else {
		copy(h, snap(text(n, byte(r.Intn(256)))))
	}
	places := []int{0, lo * size, lo*size + 1, lo*size + 2, lo*size + 3, lo*size + 11, lo*size + r.Intn(head+n)}
	if takes(n) < hi-lo {
		h = h[takes(n)*size:]
		place := 0
		for i := range r.Intn(6) {
			if place >= len(h) {
				break
			}
			place += copy(h[place:], frame(1, i, text(r.Intn(1+r.Intn(300)), byte(i))))
		}
		if place < len(h) {
			h[place] = byte(r.Intn(10)) / 9 * 2
		}
		places = append(places, (lo+takes(n))*size+r.Intn(min(len(h), place+1)))
	}
	for range r.Intn(2) * (1 + r.Intn(2)) {
		b[places[r.Intn(len(places))]] = byte(r.Intn(4))
	}
	return b
}

func TestP5_1_EveryDrum(t *testing.T) {
	r := rand.New(rand.NewSource(555))
	told := map[api.Errno]int{}
	for range 6000 {
		pages := 5 + r.Intn(9)
		b := spoilt(r, pages)
		d := drum.New(pages)
		lay(t, d, 0, b)
		snapshot, l, e := found(b)
		told[e]++
		if e == api.OK {
			opened(t, d, snapshot, l...)
		} else {
			refused(t, d, e)
		}
		if !bytes.Equal(all(t, d), b) {
			t.Fatal("Open changed the drum")
		}
	}
	for _, e := range []api.Errno{api.OK, api.ErrForm, api.ErrSum} {
		if told[e] < 300 {
			t.Errorf("error %d: %d drums alone", e, told[e])
		}
	}
}
