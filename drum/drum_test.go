package drum_test

import (
	"bytes"
	"math"
	"math/rand"
	"strings"
	"testing"

	"trivet/api"
	"trivet/drum"
)

// The exact signatures, and the page's size: the test isn't built if one is another.
var (
	_ func(int) *drum.Drum                      = drum.New
	_ func(*drum.Drum) int                      = (*drum.Drum).Pages
	_ func(*drum.Drum) int                      = (*drum.Drum).Ops
	_ func(*drum.Drum) bool                     = (*drum.Drum).Down
	_ func(*drum.Drum, int, []byte) api.Errno   = (*drum.Drum).Write
	_ func(*drum.Drum) api.Errno                = (*drum.Drum).Flush
	_ func(*drum.Drum, int) ([]byte, api.Errno) = (*drum.Drum).Read
	_ func(*drum.Drum, int)                     = (*drum.Drum).Off
	_ func(*drum.Drum)                          = (*drum.Drum).On
	_ func(*drum.Drum, int, int)                = (*drum.Drum).Arm
	_ [256]byte                                 = [drum.Page]byte{}
)

// size is a page's bytes, as a number of the chapter's and not of the program's.
const size = 256

// full: a page of one byte.
func full(c byte) []byte { return bytes.Repeat([]byte{c}, size) }

// torn: a page whose first n bytes are one, and the others another.
func torn(n int, first, behind byte) []byte {
	return append(bytes.Repeat([]byte{first}, n), bytes.Repeat([]byte{behind}, size-n)...)
}

// wrote: these bytes are each written as a full page, to the pages that are named, in turn.
func wrote(t *testing.T, d *drum.Drum, at []int, what string) {
	t.Helper()
	for i, p := range at {
		if e := d.Write(p, full(what[i])); e != api.OK {
			t.Fatalf("Write(%d, %c) = %d", p, what[i], e)
		}
	}
}

func flushed(t *testing.T, d *drum.Drum) {
	t.Helper()
	if e := d.Flush(); e != api.OK {
		t.Fatalf("Flush = %d", e)
	}
}

// holds: the drum's pages are just these.
func holds(t *testing.T, d *drum.Drum, what string, want ...[]byte) {
	t.Helper()
	if d.Pages() != len(want) {
		t.Fatalf("%s: %d pages, want %d", what, d.Pages(), len(want))
	}
	for at, w := range want {
		if got, e := d.Read(at); e != api.OK || !bytes.Equal(got, w) {
			t.Fatalf("%s: page %d is %q, %d; want %q", what, at, got, e, w)
		}
	}
}

// tells: what the drum tells of itself is this.
func tells(t *testing.T, d *drum.Drum, what string, ops int, down bool) {
	t.Helper()
	if d.Ops() != ops || d.Down() != down {
		t.Fatalf("%s: %d raw operations, down %v; want %d, %v", what, d.Ops(), d.Down(), ops, down)
	}
}

func TestP3_1_New(t *testing.T) {
	for _, c := range []struct{ pages, want int }{
		{math.MinInt, 1}, {-4096, 1}, {-1, 1}, {0, 1}, {1, 1}, {2, 2}, {9, 9},
		{4095, 4095}, {4096, 4096}, {4097, 4096}, {1 << 40, 4096}, {math.MaxInt, 4096},
	} {
		d := drum.New(c.pages)
		if d.Pages() != c.want {
			t.Fatalf("New(%d) has %d pages, want %d", c.pages, d.Pages(), c.want)
		}
		tells(t, d, "a new one", 0, false)
		for at := range c.want {
			if got, e := d.Read(at); e != api.OK || !bytes.Equal(got, make([]byte, size)) {
				t.Fatalf("New(%d): page %d is %q, %d", c.pages, at, got, e)
			}
		}
		if got, e := d.Read(c.want); e != api.ErrArg || len(got) != 0 {
			t.Fatalf("New(%d): page %d is there", c.pages, c.want)
		}
	}
}

func TestP3_1_ThePageThatWasWritten(t *testing.T) {
	d := drum.New(api.MaxPages)
	for i, at := range []int{0, 1, 2047, 4094, 4095} {
		want := bytes.Repeat([]byte{byte(i), 0, 255, '\n'}, size/4)
		if e := d.Write(at, want); e != api.OK {
			t.Fatalf("Write(%d) = %d", at, e)
		}
		if got, e := d.Read(at); e != api.OK || !bytes.Equal(got, want) {
			t.Fatalf("page %d is %q, %d", at, got, e)
		}
	}
	for _, at := range []int{2, 2046, 2048, 4093} {
		if got, e := d.Read(at); e != api.OK || !bytes.Equal(got, make([]byte, size)) {
			t.Fatalf("page %d beside those is %q, %d", at, got, e)
		}
	}
}

func TestP3_1_ReadIsAsItWasWrittenLast(t *testing.T) {
	d := drum.New(2)
	wrote(t, d, []int{0}, "a")
	holds(t, d, "waiting", full('a'), full(0))
	wrote(t, d, []int{0, 1}, "bc")
	holds(t, d, "written over while it waits", full('b'), full('c'))
	flushed(t, d)
	holds(t, d, "safe", full('b'), full('c'))
	wrote(t, d, []int{1}, "d")
	holds(t, d, "written over when it was safe", full('b'), full('d'))
	for range 3 {
		holds(t, d, "read anew", full('b'), full('d'))
	}
}

func TestP3_1_NilDrum(t *testing.T) {
	var d *drum.Drum
	d.Off(3)
	d.Arm(1, 3)
	d.On()
	if d.Pages() != 0 || d.Ops() != 0 || d.Down() {
		t.Error("a nil drum tells something")
	}
	for _, at := range []int{math.MinInt, -1, 0, 1, math.MaxInt} {
		for _, b := range [][]byte{nil, full('a'), make([]byte, 255)} {
			if e := d.Write(at, b); e != api.ErrNil {
				t.Errorf("Write(%d) of a nil drum: %d", at, e)
			}
		}
		if b, e := d.Read(at); e != api.ErrNil || len(b) != 0 {
			t.Errorf("Read(%d) of a nil drum: %q, %d", at, b, e)
		}
	}
	if e := d.Flush(); e != api.ErrNil {
		t.Errorf("Flush of a nil drum: %d", e)
	}
}

// wrongPages are those that a drum of two pages hasn't.
func wrongPages() []int {
	return []int{math.MinInt, -256, -2, -1, 2, 3, 256, 4096, 1 << 32, 1 << 56, math.MaxInt}
}

// wrongSizes are bytes that aren't just a page's, some of them within a page's room.
func wrongSizes() [][]byte {
	return [][]byte{nil, {}, {1}, full('x')[:0], full('x')[:255], full('x')[1:], make([]byte, 257), make([]byte, 512), make([]byte, 65536)}
}

func TestP3_1_WrongArguments(t *testing.T) {
	for _, down := range []bool{false, true} {
		d := drum.New(2)
		wrote(t, d, []int{0, 1}, "ab")
		flushed(t, d)
		wrote(t, d, []int{0}, "c")
		if down {
			d.Off(256)
		}
		refused := func(at int, b []byte) {
			t.Helper()
			// ErrArg comes ahead of ErrDown.
			if e := d.Write(at, b); e != api.ErrArg {
				t.Fatalf("Write(%d, %d bytes), down %v: %d", at, len(b), down, e)
			}
		}
		for _, at := range wrongPages() {
			refused(at, full('x'))
			if b, e := d.Read(at); e != api.ErrArg || len(b) != 0 {
				t.Fatalf("Read(%d), down %v: %q, %d", at, down, b, e)
			}
		}
		for _, b := range wrongSizes() {
			refused(0, b)
			refused(1, b)
			refused(-1, b)
			refused(2, b)
		}
		tells(t, d, "behind wrong arguments", 4, down)
		d.On()
		holds(t, d, "behind wrong arguments", full('c'), full('b'))
	}
}

func TestP3_1_RefusedWritesDoNotWait(t *testing.T) {
	d := drum.New(2)
	wrote(t, d, []int{0}, "a")
	for _, b := range wrongSizes() {
		d.Write(0, b)
	}
	for _, at := range wrongPages() {
		d.Write(at, full('x'))
	}
	wrote(t, d, []int{1}, "b")
	d.Off(256 + 7)
	d.On()
	holds(t, d, "refused ones between two that wait", full('a'), torn(7, 'b', 0))
}

func TestP3_1_WhileThePowerIsOff(t *testing.T) {
	d := drum.New(2)
	wrote(t, d, []int{0}, "a")
	flushed(t, d)
	d.Off(0)
	for range 3 {
		tells(t, d, "off", 2, true)
		if d.Pages() != 2 {
			t.Fatalf("off: %d pages", d.Pages())
		}
		if e := d.Write(1, full('x')); e != api.ErrDown {
			t.Fatalf("Write: %d", e)
		}
		if e := d.Flush(); e != api.ErrDown {
			t.Fatalf("Flush: %d", e)
		}
		if b, e := d.Read(0); e != api.ErrDown || len(b) != 0 {
			t.Fatalf("Read: %q, %d", b, e)
		}
	}
	tells(t, d, "off", 2, true)
	d.On()
	tells(t, d, "back", 2, false)
	holds(t, d, "back", full('a'), full(0))
	d.Off(1000)
	d.On()
	holds(t, d, "what was refused while it was off doesn't wait", full('a'), full(0))
}

// offCases are what is left of b, c and d, which wait for the pages 0, 1 and 0, where a and noughts were safe.
func offCases() []struct {
	keep        int
	first, next []byte
} {
	return []struct {
		keep        int
		first, next []byte
	}{
		{math.MinInt, full('a'), full(0)},
		{-256, full('a'), full(0)},
		{-1, full('a'), full(0)},
		{0, full('a'), full(0)},
		{1, torn(1, 'b', 'a'), full(0)},
		{3, torn(3, 'b', 'a'), full(0)},
		{255, torn(255, 'b', 'a'), full(0)},
		{256, full('b'), full(0)},
		{257, full('b'), torn(1, 'c', 0)},
		{511, full('b'), torn(255, 'c', 0)},
		{512, full('b'), full('c')},
		{513, torn(1, 'd', 'b'), full('c')},
		{600, torn(88, 'd', 'b'), full('c')},
		{767, torn(255, 'd', 'b'), full('c')},
		{768, full('d'), full('c')},
		{769, full('d'), full('c')},
		{1 << 40, full('d'), full('c')},
		{math.MaxInt, full('d'), full('c')},
	}
}

// waiting: a drum of which b, c and d wait.
func waiting(t *testing.T) *drum.Drum {
	t.Helper()
	d := drum.New(2)
	wrote(t, d, []int{0}, "a")
	flushed(t, d)
	wrote(t, d, []int{0, 1, 0}, "bcd")
	holds(t, d, "all is written", full('d'), full('c'))
	return d
}

func TestP3_1_OffKeepsTheFirstBytes(t *testing.T) {
	for _, c := range offCases() {
		d := waiting(t)
		d.Off(c.keep)
		tells(t, d, "off", 5, true)
		d.On()
		tells(t, d, "back", 5, false)
		holds(t, d, "back", c.first, c.next)
	}
}

func TestP3_1_ThePowerGoesInAFlush(t *testing.T) {
	for _, c := range offCases() {
		d := waiting(t)
		d.Arm(1, c.keep)
		if e := d.Flush(); e != api.ErrDown {
			t.Fatalf("Flush: %d", e)
		}
		tells(t, d, "off", 6, true)
		d.On()
		holds(t, d, "back", c.first, c.next)
	}
}

func TestP3_1_ThePowerGoesInAWrite(t *testing.T) {
	for _, c := range offCases() {
		d := drum.New(2)
		wrote(t, d, []int{0}, "a")
		flushed(t, d)
		wrote(t, d, []int{0}, "b")
		d.Arm(2, c.keep)
		wrote(t, d, []int{1}, "c")
		tells(t, d, "one ahead of it", 4, false)
		// This one is the last of what waits.
		if e := d.Write(0, full('d')); e != api.ErrDown {
			t.Fatalf("Write: %d", e)
		}
		tells(t, d, "off", 5, true)
		d.On()
		holds(t, d, "back", c.first, c.next)
	}
}

func TestP3_1_ThePowerGoesInTheOnlyWrite(t *testing.T) {
	for _, keep := range []int{-1, 0, 1, 255, 256, 257} {
		d := drum.New(1)
		d.Arm(1, keep)
		if e := d.Write(0, full('a')); e != api.ErrDown {
			t.Fatalf("Write: %d", e)
		}
		tells(t, d, "off", 1, true)
		d.On()
		holds(t, d, "back", torn(min(max(keep, 0), 256), 'a', 0))
	}
}

func TestP3_1_OnePageWrittenManyTimes(t *testing.T) {
	letters := "abcdefgh"
	for keep := range len(letters)*size + 2 {
		d := drum.New(1)
		wrote(t, d, make([]int, len(letters)), letters)
		d.Off(keep)
		d.On()
		whole, part := keep/size, keep%size
		at := "\x00" + letters + "h"
		if whole >= len(letters) {
			whole, part = len(letters), 0
		}
		holds(t, d, "back", torn(part, at[whole+1], at[whole]))
	}
}

func TestP3_1_NothingWaitsBehindALoss(t *testing.T) {
	d := waiting(t)
	d.Off(513)
	d.On()
	want := [][]byte{torn(1, 'd', 'b'), full('c')}
	for _, keep := range []int{0, 100, 1000, -1} {
		d.Off(keep)
		d.On()
		holds(t, d, "a loss when nothing waits", want...)
	}
	// What waits from now on is counted from its own first byte on.
	wrote(t, d, []int{1, 0}, "ef")
	d.Off(258)
	d.On()
	holds(t, d, "behind a loss", append(full('f')[:2], want[0][2:]...), full('e'))
}

func TestP3_1_NothingWaitsBehindAFlush(t *testing.T) {
	d := waiting(t)
	flushed(t, d)
	wrote(t, d, []int{1, 0}, "ef")
	d.Off(258)
	d.On()
	holds(t, d, "behind a Flush", torn(2, 'f', 'd'), full('e'))
}

func TestP3_1_WhatIsCounted(t *testing.T) {
	d := drum.New(2)
	steps := []struct {
		what string
		do   func()
		ops  int
		down bool
	}{
		{"Flush of nothing", func() { d.Flush() }, 1, false},
		{"Flush of nothing once more", func() { d.Flush() }, 2, false},
		{"Write", func() { d.Write(0, full('a')) }, 3, false},
		{"Write of the same", func() { d.Write(0, full('a')) }, 4, false},
		{"Flush", func() { d.Flush() }, 5, false},
		{"Read", func() { d.Read(0) }, 5, false},
		{"Read of no page", func() { d.Read(2) }, 5, false},
		{"Write of no page", func() { d.Write(2, full('a')) }, 5, false},
		{"Write of too few", func() { d.Write(0, nil) }, 5, false},
		{"Pages", func() { d.Pages() }, 5, false},
		{"Arm", func() { d.Arm(2, 0) }, 5, false},
		{"On", func() { d.On() }, 5, false},
		{"Write while it is armed", func() { d.Write(1, full('a')) }, 6, false},
		{"Write in which the power goes", func() { d.Write(1, full('a')) }, 7, true},
		{"Write while it is off", func() { d.Write(1, full('a')) }, 7, true},
		{"Flush while it is off", func() { d.Flush() }, 7, true},
		{"Read while it is off", func() { d.Read(1) }, 7, true},
		{"Off while it is off", func() { d.Off(0) }, 7, true},
		{"Arm while it is off", func() { d.Arm(1, 0) }, 7, true},
		{"On again", func() { d.On() }, 7, false},
		{"Flush in which the power goes", func() { d.Flush() }, 8, true},
		{"On once more", func() { d.On() }, 8, false},
		{"Off", func() { d.Off(0) }, 8, true},
		{"On at last", func() { d.On() }, 8, false},
		{"Write at last", func() { d.Write(0, full('a')) }, 9, false},
	}
	for _, s := range steps {
		s.do()
		tells(t, d, s.what, s.ops, s.down)
	}
}

// goesIn: the power goes in just the n-th raw operation from now on.
func goesIn(t *testing.T, d *drum.Drum, what string, n int) {
	t.Helper()
	ops := d.Ops()
	for i := 1; i < n; i++ {
		if e := d.Flush(); e != api.OK {
			t.Fatalf("%s: it goes in %d of %d: %d", what, i, n, e)
		}
		tells(t, d, what, ops+i, false)
	}
	if e := d.Flush(); e != api.ErrDown {
		t.Fatalf("%s: it doesn't go in %d: %d", what, n, e)
	}
	tells(t, d, what, ops+n, true)
}

// staysOn: the power doesn't go in any of some raw operations.
func staysOn(t *testing.T, d *drum.Drum, what string) {
	t.Helper()
	for range 20 {
		if w, f := d.Write(0, full('s')), d.Flush(); w != api.OK || f != api.OK || d.Down() {
			t.Fatalf("%s: the power went: %d, %d", what, w, f)
		}
	}
}

func TestP3_1_ArmGoesInTheNth(t *testing.T) {
	for n := 1; n < 30; n++ {
		d := drum.New(1)
		d.Arm(n, 0)
		goesIn(t, d, "armed", n)
		d.On()
		staysOn(t, d, "what was armed is used up")
	}
}

func TestP3_1_ArmBelowOne(t *testing.T) {
	for _, n := range []int{0, -1, -2, math.MinInt} {
		d := drum.New(1)
		d.Arm(n, 1000)
		tells(t, d, "armed with none", 0, false)
		staysOn(t, d, "n below 1")
		d.Arm(3, 0)
		d.Flush()
		d.Arm(n, 0)
		staysOn(t, d, "n below 1 in the place of what was armed")
		d.Off(0)
		d.Arm(1, 0)
		d.Arm(n, 0)
		d.On()
		staysOn(t, d, "n below 1 while it is off")
	}
}

func TestP3_1_ArmFarAway(t *testing.T) {
	d := drum.New(1)
	d.Arm(math.MaxInt, math.MinInt)
	staysOn(t, d, "armed far away")
	d.Arm(1<<40, math.MaxInt)
	staysOn(t, d, "armed far away")
	d.Arm(1, math.MaxInt)
	goesIn(t, d, "armed near", 1)
}

func TestP3_1_ArmOnceMore(t *testing.T) {
	for first := 1; first < 6; first++ {
		for done := range first {
			for next := 1; next < 8; next++ {
				d := drum.New(1)
				d.Arm(first, 0)
				for range done {
					flushed(t, d)
				}
				d.Arm(next, 0)
				goesIn(t, d, "armed once more", next)
				d.On()
				staysOn(t, d, "neither is left")
			}
		}
	}
}

func TestP3_1_ArmOnceMoreKeepsItsOwn(t *testing.T) {
	d := drum.New(1)
	d.Arm(1, 200)
	d.Arm(1, 5)
	if e := d.Write(0, full('a')); e != api.ErrDown {
		t.Fatalf("Write: %d", e)
	}
	d.On()
	holds(t, d, "the later one's k", torn(5, 'a', 0))
	d.Arm(1, 200)
	d.Off(0)
	d.Arm(1, -1)
	d.On()
	if e := d.Write(0, full('b')); e != api.ErrDown {
		t.Fatalf("Write: %d", e)
	}
	d.On()
	holds(t, d, "the later one's k", torn(5, 'a', 0))
}

func TestP3_1_OnlyRawOperationsBringItNearer(t *testing.T) {
	d := drum.New(1)
	d.Arm(2, 0)
	others := func() {
		d.Read(0)
		d.Read(1)
		d.Write(1, full('x'))
		d.Write(-1, full('x'))
		d.Write(0, nil)
		d.On()
		d.Pages()
		d.Ops()
		d.Down()
	}
	others()
	flushed(t, d)
	others()
	tells(t, d, "one is left", 1, false)
	goesIn(t, d, "the second one", 1)

	d.Arm(2, 0)
	for range 5 {
		d.Write(0, full('x'))
		d.Flush()
		d.Read(0)
	}
	d.On()
	goesIn(t, d, "what was refused while it was off doesn't count", 2)
}

func TestP3_1_ALossDisarms(t *testing.T) {
	d := drum.New(1)
	d.Arm(2, 0)
	d.Off(0)
	d.On()
	staysOn(t, d, "behind Off nothing is armed")

	d.Arm(1, 0)
	goesIn(t, d, "armed", 1)
	d.On()
	staysOn(t, d, "behind a loss in an operation nothing is armed")
}

func TestP3_1_WhatIsArmedStays(t *testing.T) {
	d := drum.New(1)
	d.Arm(2, 0)
	d.On()
	goesIn(t, d, "On of one that is on", 2)

	d.Arm(3, 0)
	d.On()
	goesIn(t, d, "armed while it was off", 3)

	d.Arm(2, 0)
	d.Off(0)
	tells(t, d, "Off of one that is off", 5, true)
	d.On()
	goesIn(t, d, "Off of one that is off does nothing", 2)

	d.On()
	d.Arm(4, 0)
	flushed(t, d)
	d.On()
	d.On()
	goesIn(t, d, "On between two operations", 3)
}

func TestP3_1_OffOfOneThatIsOff(t *testing.T) {
	d := waiting(t)
	d.Off(3)
	for _, keep := range []int{0, 1000, -1, math.MaxInt, math.MinInt} {
		d.Off(keep)
		tells(t, d, "off", 5, true)
	}
	d.On()
	holds(t, d, "the first Off counts", torn(3, 'b', 'a'), full(0))
}

func TestP3_1_OnOfOneThatIsOn(t *testing.T) {
	d := waiting(t)
	d.On()
	tells(t, d, "on", 5, false)
	holds(t, d, "nothing is changed", full('d'), full('c'))
	d.Off(3)
	d.On()
	d.On()
	holds(t, d, "what waited still waited", torn(3, 'b', 'a'), full(0))
}

// model is the chapter's words, done the slow way: what is safe, and every byte that waits.
type model struct {
	safe  [][]byte
	waits []mark
	ops   int
	down  bool
	armed int
	keep  int
}

// mark is a byte that waits: where, and which.
type mark struct {
	at, place int
	c         byte
}

func newModel(pages int) *model {
	m := &model{}
	for range pages {
		m.safe = append(m.safe, make([]byte, size))
	}
	return m
}

// with: the pages as they are with so many of the bytes that wait.
func (m *model) with(keep int) [][]byte {
	var out [][]byte
	for _, p := range m.safe {
		out = append(out, bytes.Clone(p))
	}
	for i, w := range m.waits {
		if i < keep {
			out[w.at][w.place] = w.c
		}
	}
	return out
}

func (m *model) off(keep int) {
	if !m.down {
		m.safe = m.with(keep)
		m.waits, m.armed, m.down = nil, 0, true
	}
}

func (m *model) arm(n, keep int) { m.armed, m.keep = max(n, 0), keep }

// goes: a raw operation; whether the power goes in it.
func (m *model) goes() bool {
	m.ops++
	if m.armed == 1 {
		m.off(m.keep)
		return true
	}
	m.armed = max(m.armed-1, 0)
	return false
}

func (m *model) write(at int, b []byte) api.Errno {
	if at < 0 || at >= len(m.safe) || len(b) != size {
		return api.ErrArg
	}
	if m.down {
		return api.ErrDown
	}
	for i, c := range b {
		m.waits = append(m.waits, mark{at, i, c})
	}
	if m.goes() {
		return api.ErrDown
	}
	return api.OK
}

func (m *model) flush() api.Errno {
	if m.down || m.goes() {
		return api.ErrDown
	}
	m.safe = m.with(len(m.waits))
	m.waits = nil
	return api.OK
}

func (m *model) read(at int) ([]byte, api.Errno) {
	if at < 0 || at >= len(m.safe) {
		return nil, api.ErrArg
	}
	if m.down {
		return nil, api.ErrDown
	}
	return m.with(len(m.waits))[at], api.OK
}

// somePage is any bytes of a page, or seldom too few or too many.
func somePage(rnd *rand.Rand) []byte {
	b := make([]byte, size)
	if rnd.Intn(12) == 0 {
		b = make([]byte, rnd.Intn(3*size))
	}
	rnd.Read(b)
	return b
}

// someKeep is any, or at the edge of a write.
func someKeep(rnd *rand.Rand) int {
	switch rnd.Intn(4) {
	case 0:
		return rnd.Intn(6)*size + rnd.Intn(3) - 1
	case 1:
		return []int{math.MinInt, math.MaxInt, -1, 0}[rnd.Intn(4)]
	}
	return rnd.Intn(5 * size)
}

// bothDo: a drum and its model are asked the same thing; whether they answer alike.
func bothDo(rnd *rand.Rand, d *drum.Drum, m *model) bool {
	switch at := rnd.Intn(len(m.safe)+2) - 1; rnd.Intn(9) {
	case 0, 1, 2, 3:
		b := somePage(rnd)
		return d.Write(at, b) == m.write(at, b)
	case 4:
		return d.Flush() == m.flush()
	case 5:
		got, e := d.Read(at)
		want, f := m.read(at)
		return bytes.Equal(got, want) && e == f
	case 6:
		if keep := someKeep(rnd); rnd.Intn(2) == 0 {
			d.Off(keep)
			m.off(keep)
		}
	case 7:
		d.On()
		m.down = false
	case 8:
		n, keep := rnd.Intn(7)-1, someKeep(rnd)
		d.Arm(n, keep)
		m.arm(n, keep)
	}
	return true
}

func TestP3_1_InEveryOrder(t *testing.T) {
	for seed := range int64(200) {
		rnd := rand.New(rand.NewSource(seed))
		pages := 1 + rnd.Intn(3)
		d, m := drum.New(pages), newModel(pages)
		for step := range 200 {
			if !bothDo(rnd, d, m) {
				t.Fatalf("seed %d, step %d: another answer", seed, step)
			}
			if d.Ops() != m.ops || d.Down() != m.down || d.Pages() != pages {
				t.Fatalf("seed %d, step %d: %d raw operations, down %v; want %d, %v", seed, step, d.Ops(), d.Down(), m.ops, m.down)
			}
			for at := range pages {
				got, e := d.Read(at)
				want, f := m.read(at)
				if !bytes.Equal(got, want) || e != f {
					t.Fatalf("seed %d, step %d: page %d is %x, %d; want %x, %d", seed, step, at, got, e, want, f)
				}
			}
		}
	}
}

func TestP3_2_SafeBehindAFlush(t *testing.T) {
	losses := []struct {
		what string
		do   func(d *drum.Drum, keep int)
	}{
		{"Off", func(d *drum.Drum, keep int) { d.Off(keep) }},
		{"in a Flush", func(d *drum.Drum, keep int) { d.Arm(1, keep); d.Flush() }},
		{"in a Write to another page", func(d *drum.Drum, keep int) { d.Arm(1, keep); d.Write(2, full('x')) }},
		{"in the second Write to another page", func(d *drum.Drum, keep int) {
			d.Arm(2, keep)
			d.Write(2, full('x'))
			d.Write(2, full('y'))
		}},
	}
	for _, l := range losses {
		for _, keep := range []int{math.MinInt, -1, 0, 1, 255, 256, 257, 512, math.MaxInt} {
			d := drum.New(3)
			wrote(t, d, []int{0, 1, 0}, "abc")
			flushed(t, d)
			for range 3 {
				l.do(d, keep)
				if !d.Down() {
					t.Fatalf("%s: the power didn't go", l.what)
				}
				d.On()
				for at, c := range []byte("cb") {
					if got, e := d.Read(at); e != api.OK || !bytes.Equal(got, full(c)) {
						t.Fatalf("%s, %d kept: page %d is %q, %d", l.what, keep, at, got, e)
					}
				}
			}
		}
	}
}

func TestP3_2_SafeUntilItIsWrittenAnew(t *testing.T) {
	d := drum.New(2)
	wrote(t, d, []int{0, 1}, "ab")
	flushed(t, d)
	wrote(t, d, []int{0}, "c")
	d.Off(0)
	d.On()
	holds(t, d, "what was written anew isn't kept", full('a'), full('b'))
	wrote(t, d, []int{0}, "d")
	d.Off(256)
	d.On()
	holds(t, d, "what was written anew is kept", full('d'), full('b'))
	d.Off(0)
	d.On()
	holds(t, d, "and is safe then", full('d'), full('b'))
}

func TestP3_2_AFlushInWhichThePowerGoesIsNone(t *testing.T) {
	d := drum.New(1)
	wrote(t, d, []int{0}, "a")
	d.Arm(1, 10)
	if e := d.Flush(); e != api.ErrDown {
		t.Fatalf("Flush: %d", e)
	}
	d.On()
	holds(t, d, "ten bytes were kept", torn(10, 'a', 0))
	flushed(t, d)
	holds(t, d, "a later Flush brings nothing back", torn(10, 'a', 0))
}

func TestP3_2_SafeWhateverComes(t *testing.T) {
	for seed := range int64(300) {
		rnd := rand.New(rand.NewSource(seed))
		d := drum.New(4)
		for range 10 {
			d.Write(rnd.Intn(4), somePage(rnd))
		}
		flushed(t, d)
		var safe [][]byte
		for at := range 4 {
			b, _ := d.Read(at)
			safe = append(safe, b)
		}
		// Page 3 alone is written anew.
		for range 30 {
			switch rnd.Intn(4) {
			case 0:
				d.Write(3, somePage(rnd))
			case 1:
				d.Arm(rnd.Intn(3), someKeep(rnd))
			case 2:
				d.Off(someKeep(rnd))
			case 3:
				d.Flush()
			}
			if rnd.Intn(2) == 0 {
				d.On()
			}
		}
		d.On()
		for at := range 3 {
			if got, e := d.Read(at); e != api.OK || !bytes.Equal(got, safe[at]) {
				t.Fatalf("seed %d: page %d is %x, %d; it was %x", seed, at, got, e, safe[at])
			}
		}
	}
}

func TestP3_3_InOrder(t *testing.T) {
	// Each page is written once, in an order of its own, so that it tells of its own write alone.
	for seed := range int64(40) {
		rnd := rand.New(rand.NewSource(seed))
		order := rnd.Perm(5)
		for _, keep := range []int{-7, 0, 1, 255, 256, 257, 511, 512, 513, 900, 1023, 1024, 1025, 1279, 1280, 1281, rnd.Intn(1300)} {
			d := drum.New(5)
			for _, at := range order {
				d.Write(at, full(byte('a'+at)))
			}
			d.Off(keep)
			d.On()
			whole := true
			sum := 0
			for _, at := range order {
				b, _ := d.Read(at)
				n := bytes.Count(b, []byte{byte('a' + at)})
				if n > 0 && !whole {
					t.Fatalf("order %v, %d kept: of page %d are %d bytes, and not all that waited ahead of it", order, keep, at, n)
				}
				if !bytes.Equal(b, torn(n, byte('a'+at), 0)) {
					t.Fatalf("order %v, %d kept: page %d hasn't the first bytes of its write: %q", order, keep, at, b)
				}
				whole = n == size
				sum += n
			}
			if sum != min(max(keep, 0), 5*size) {
				t.Fatalf("order %v: %d bytes are kept of %d", order, sum, keep)
			}
		}
	}
}

func TestP3_3_InOrderOverAPageWrittenTwice(t *testing.T) {
	for keep := range 4*size + 1 {
		d := drum.New(2)
		wrote(t, d, []int{0, 1, 0, 1}, "abcd")
		d.Off(keep)
		d.On()
		first, _ := d.Read(0)
		next, _ := d.Read(1)
		switch {
		case bytes.ContainsRune(next, 'd') && !bytes.Equal(first, full('c')):
			t.Fatalf("%d kept: d's, and not all c's: %q", keep, first)
		case bytes.ContainsRune(first, 'c') && !bytes.Equal(next, full('b')) && !bytes.ContainsRune(next, 'd'):
			t.Fatalf("%d kept: c's, and not all b's: %q", keep, next)
		case bytes.ContainsRune(next, 'b') && bytes.ContainsRune(first, 0):
			t.Fatalf("%d kept: b's, and not all a's: %q", keep, first)
		}
	}
}

func TestP3_3_TheChaptersExample(t *testing.T) {
	for _, c := range []struct {
		keep        int
		first, next string
	}{
		{3, "bbb" + strings.Repeat("a", 253), strings.Repeat("\x00", 256)},
		{257, strings.Repeat("b", 256), "c" + strings.Repeat("\x00", 255)},
	} {
		d := drum.New(2)
		wrote(t, d, []int{0}, "a")
		flushed(t, d)
		wrote(t, d, []int{0, 1}, "bc")
		d.Off(c.keep)
		d.On()
		holds(t, d, "back", []byte(c.first), []byte(c.next))
	}
}

// roomy: a page with spare room ahead of it and behind it, and the whole of it.
func roomy(c byte) (b, whole []byte) {
	whole = bytes.Repeat([]byte{'#'}, size+128)
	copy(whole[64:], full(c))
	return whole[64 : 64+size], whole
}

// fill writes a byte over all the memory that a list has, its spare room too.
func fill(b []byte, c byte) {
	for i := range cap(b) {
		b[:cap(b)][i] = c
	}
}

func TestP3_4_WriteLeavesWhatItIsGiven(t *testing.T) {
	d := drum.New(2)
	one, oneWhole := roomy('a')
	two, twoWhole := roomy('b')
	oneWas, twoWas := string(oneWhole), string(twoWhole)
	d.Write(0, one)
	d.Write(1, two)
	d.Write(1, one[:100])
	d.Write(2, one)
	d.Write(0, two)
	d.Off(256 + 256 + 3)
	d.Write(0, two)
	d.On()
	holds(t, d, "torn", torn(3, 'b', 'a'), full('b'))
	wrote(t, d, []int{0, 1}, "xy")
	flushed(t, d)
	if string(oneWhole) != oneWas || string(twoWhole) != twoWas {
		t.Error("what was handed in is changed")
	}
}

func TestP3_4_WriteKeepsNothingOfIt(t *testing.T) {
	b, whole := roomy('a')
	d := drum.New(2)
	d.Write(0, b)
	fill(whole, '!')
	holds(t, d, "written into while it waits", full('a'), full(0))
	fill(whole, 'b')
	d.Write(0, b)
	d.Write(1, b)
	fill(whole, '!')
	d.Arm(1, 256+5)
	fill(whole, 'c')
	d.Write(0, b)
	fill(whole, '!')
	d.On()
	holds(t, d, "written into behind a loss", torn(5, 'b', 'a'), full(0))
	fill(whole, 'd')
	d.Write(1, b)
	flushed(t, d)
	fill(whole, '!')
	holds(t, d, "written into behind a Flush", torn(5, 'b', 'a'), full('d'))
}

func TestP3_4_OneListForManyWrites(t *testing.T) {
	b := make([]byte, size)
	d := drum.New(1)
	for _, c := range []byte("abc") {
		fill(b, c)
		d.Write(0, b)
	}
	fill(b, '!')
	d.Off(2*size + 9)
	d.On()
	holds(t, d, "each write has its own bytes", torn(9, 'c', 'b'))
}

func TestP3_4_ReadAnswersNewMemory(t *testing.T) {
	d := drum.New(2)
	wrote(t, d, []int{0, 1}, "ab")
	first, _ := d.Read(0)
	second, _ := d.Read(0)
	third, _ := d.Read(1)
	fill(first, '?')
	if !bytes.Equal(second, full('a')) || !bytes.Equal(third, full('b')) {
		t.Error("two answers share memory")
	}
	holds(t, d, "an answer was written into while it waits", full('a'), full('b'))
	flushed(t, d)
	safe, _ := d.Read(0)
	fill(safe, '?')
	holds(t, d, "an answer was written into when it was safe", full('a'), full('b'))
	wrote(t, d, []int{0}, "c")
	over, _ := d.Read(0)
	fill(over, '?')
	d.Off(4)
	d.On()
	holds(t, d, "answers were written into ahead of a loss", torn(4, 'c', 'a'), full('b'))
	back, _ := d.Read(0)
	fill(back, '?')
	holds(t, d, "an answer was written into behind a loss", torn(4, 'c', 'a'), full('b'))
}

func TestP3_4_AnAnswerStaysAsItWas(t *testing.T) {
	d := drum.New(1)
	wrote(t, d, []int{0}, "a")
	got, _ := d.Read(0)
	wrote(t, d, []int{0}, "b")
	later, _ := d.Read(0)
	flushed(t, d)
	wrote(t, d, []int{0}, "c")
	d.Off(7)
	d.On()
	if !bytes.Equal(got, full('a')) || !bytes.Equal(later, full('b')) {
		t.Errorf("earlier answers are changed: %q, %q", got, later)
	}
}

func TestP3_4_WhatIsReadIsWritten(t *testing.T) {
	d := drum.New(2)
	wrote(t, d, []int{0}, "a")
	b, _ := d.Read(0)
	d.Write(1, b)
	fill(b, '!')
	holds(t, d, "a page copied by the caller", full('a'), full('a'))
	// The drum's own answer, handed in for the page it came from.
	c, _ := d.Read(0)
	d.Write(0, c)
	fill(c, '!')
	holds(t, d, "a page written to itself", full('a'), full('a'))
}

func TestP3_4_TwoDrums(t *testing.T) {
	one, two := drum.New(2), drum.New(2)
	wrote(t, one, []int{0}, "a")
	holds(t, two, "beside one that is written", full(0), full(0))
	wrote(t, two, []int{0, 1}, "bc")
	flushed(t, two)
	one.Off(5)
	tells(t, one, "off", 1, true)
	tells(t, two, "beside one that is off", 3, false)
	holds(t, two, "beside one that is off", full('b'), full('c'))
	two.Arm(1, 0)
	one.On()
	holds(t, one, "the other one's Flush wasn't its own", torn(5, 'a', 0), full(0))
	staysOn(t, one, "beside one that is armed")
	goesIn(t, two, "armed", 1)
	one.On()
	tells(t, two, "On of the other one", 4, true)
}

func TestP3_4_ManyDrumsInTurn(t *testing.T) {
	rnd := rand.New(rand.NewSource(9))
	var drums []*drum.Drum
	var models []*model
	for range 5 {
		drums = append(drums, drum.New(2))
		models = append(models, newModel(2))
	}
	for step := range 3000 {
		k := rnd.Intn(5)
		if !bothDo(rnd, drums[k], models[k]) {
			t.Fatalf("step %d: drum %d answers otherwise", step, k)
		}
		for i, d := range drums {
			if d.Ops() != models[i].ops || d.Down() != models[i].down {
				t.Fatalf("step %d: drum %d tells otherwise", step, i)
			}
		}
	}
}
