package keep_test

import (
	"fmt"
	"math/rand"
	"testing"

	"trivet/api"
	"trivet/core"
	"trivet/drum"
	"trivet/image"
	"trivet/keep"
	"trivet/pair"
	"trivet/tx"
)

// read: the core behind a record, by the chapter's words.
func read(c api.Core, record []byte) (api.Core, api.Errno) {
	if string(record) == lost {
		return core.Strip(c)
	}
	list, err := image.ReadOps(record)
	if err != ok {
		return api.Core{}, errForm
	}
	after, _, _, err := tx.Run(c, list)
	if err != ok {
		return api.Core{}, errForm
	}
	return after, ok
}

// rebuilt: the core on a drum as it was laid down, not stripped yet.
func rebuilt(d *drum.Drum) (*pair.Pair, api.Core, api.Errno) {
	var c api.Core
	p, snapshot, records, err := pair.Open(d)
	if err == ok && len(snapshot) > 0 {
		c, err = image.Decode(snapshot)
	}
	for _, r := range records {
		if err == ok {
			c, err = read(c, r)
		}
	}
	return p, c, err
}

// tells: what an opening has to find, if there is room for what it lays down.
func tells(d *drum.Drum) (api.Core, api.Errno) {
	_, c, err := rebuilt(d)
	if err != ok {
		return api.Core{}, err
	}
	return core.Strip(c)
}

// twin is what a Keep has to be, over a drum of its own on which layer 5 is asked by hand.
type twin struct {
	drum *drum.Drum
	pair *pair.Pair
	core api.Core
	over bool
}

func open(d *drum.Drum) (*twin, api.Errno) {
	p, c, err := rebuilt(d)
	if err != ok {
		return nil, err
	}
	l, _ := core.Strip(c)
	if !same(l, c) {
		if err = p.Append([]byte(lost)); err == errFull {
			b, _ := image.Encode(l)
			err = p.Save(b)
		}
	}
	if err != ok {
		return nil, err
	}
	return &twin{drum: d, pair: p, core: l}, ok
}

func (w *twin) do(list ...api.Op) answer {
	if len(list) < 1 || len(list) > maxTx {
		return answer{err: errArg}
	}
	for _, o := range list {
		if !image.Valid(o) {
			return answer{err: errArg}
		}
	}
	if w.over || w.drum.Down() {
		return answer{err: errDown}
	}
	after, out, at, err := tx.Run(w.core, list)
	if err != ok {
		return answer{at: at, err: err}
	}
	b, _ := image.Ops(list)
	if err = w.pair.Append(b); err != ok {
		w.over = err == errDown
		return answer{err: err}
	}
	w.core = after
	return answer{out: out}
}

func (w *twin) save() api.Errno {
	if w.over || w.drum.Down() {
		return errDown
	}
	b, _ := image.Encode(w.core)
	err := w.pair.Save(b)
	w.over = err == errDown
	return err
}

// both is a Keep and its twin, to which the same befalls.
type both struct {
	keep  *keep.Keep
	twin  *twin
	drums [2]*drum.Drum
}

func newBoth(t *testing.T, pages int) *both {
	t.Helper()
	b := &both{drums: [2]*drum.Drum{drum.New(pages), drum.New(pages)}}
	b.open(t, "at first")
	return b
}

// open makes both anew; the answer is that of the opening.
func (b *both) open(t *testing.T, what string) api.Errno {
	t.Helper()
	k, err := keep.Open(b.drums[0])
	w, want := open(b.drums[1])
	if err != want || (k == nil) != (w == nil) {
		t.Fatalf("%s: Open: %v, %d, not %d", what, k, err, want)
	}
	b.keep, b.twin = k, w
	b.check(t, what)
	return err
}

// each does something to both drums.
func (b *both) each(f func(d *drum.Drum)) {
	for _, d := range b.drums {
		f(d)
	}
}

// check: that all that can be seen of both is the same. (Of drums without power nothing can be read: they are told apart when it is back.)
func (b *both) check(t *testing.T, what string) {
	t.Helper()
	if b.drums[0].Ops() != b.drums[1].Ops() || b.drums[0].Down() != b.drums[1].Down() {
		t.Fatalf("%s: %d raw operations, down %v; not %d, %v", what, b.drums[0].Ops(), b.drums[0].Down(), b.drums[1].Ops(), b.drums[1].Down())
	}
	if !b.drums[0].Down() {
		sameBytes(t, what, b.drums[0], all(t, b.drums[1]))
	}
	if b.keep != nil {
		holds(t, what, b.keep, b.twin.core, b.twin.pair.Count())
	}
	if t.Failed() {
		t.FailNow()
	}
}

func (b *both) do(t *testing.T, list ...api.Op) api.Errno {
	t.Helper()
	what := fmt.Sprintf("Do of %.300s", fmt.Sprintf("%+v", list))
	got, want := do(b.keep, list...), b.twin.do(list...)
	is(t, what, got, want)
	b.check(t, what)
	return got.err
}

func (b *both) save(t *testing.T) api.Errno {
	t.Helper()
	got, want := b.keep.Save(), b.twin.save()
	is(t, "Save", got, want)
	b.check(t, "Save")
	return got
}

// wrongOps: operations that can't be written down.
func wrongOps() map[string]api.Op {
	return map[string]api.Op{
		"no kind": {}, "kind 15": {Kind: 15}, "kind -1": {Kind: -1},
		"connection 8": {Kind: tick, Conn: 8}, "connection -1": {Kind: detach, Conn: -1},
		"subscription -1": {Kind: tick, Sub: -1}, "a subscription beyond": {Kind: tick, Sub: maxNum + 1},
		"a number below 0": later(-1), "a number beyond": later(maxNum + 1),
		"a queue of 17":         {Kind: tick, Queue: "12345678901234567"},
		"a text of 65":          {Kind: tick, Text: "12345678901234567890123456789012345678901234567890123456789012345"},
		"a message":             {Kind: tick, Msg: api.Msg{Topic: "a"}},
		"a body":                {Kind: ack, Msg: api.Msg{Body: "a"}},
		"an until":              {Kind: tick, Msg: api.Msg{Until: 1}},
		"a truth":               {Kind: tick, Msg: api.Msg{Durable: true}},
		"properties":            {Kind: tick, Msg: api.Msg{Props: rich("a", "b", true).Props}},
		"no topic":              {Kind: publish},
		"a pattern":             {Kind: publish, Msg: api.Msg{Topic: "a.*"}},
		"a message until -1":    {Kind: publish, Msg: api.Msg{Topic: "a", Until: -1}},
		"a property of no kind": {Kind: publish, Msg: api.Msg{Topic: "a", Props: []api.Prop{{Name: "a"}}}},
	}
}

// befall: something befalls both; false: they can't be opened any more.
func (b *both) befall(t *testing.T, r *rand.Rand, told map[string]int) bool {
	t.Helper()
	switch n := r.Intn(40); {
	case n < 24:
		list := someList(r, b.twin.core, 1+r.Intn(1+r.Intn(4)), 20)
		told[fmt.Sprint("Do ", b.do(t, list...))]++
	case n < 26:
		b.do(t, someList(r, b.twin.core, one(r, 0, 16, 17), 200)...)
	case n < 27:
		for what, o := range wrongOps() {
			list := someList(r, b.twin.core, 2, 10)
			list[r.Intn(2)] = o
			if err := b.do(t, list...); err != errArg {
				t.Fatalf("%s: %d", what, err)
			}
		}
	case n < 30:
		told[fmt.Sprint("Save ", b.save(t))]++
	case n < 32:
		k := r.Intn(600)
		b.each(func(d *drum.Drum) { d.Off(k) })
		b.do(t, later(1))
		b.save(t)
		if r.Intn(4) > 0 {
			b.each(func(d *drum.Drum) { d.On() })
		}
	case n < 35:
		b.each(func(d *drum.Drum) { d.On() })
	case n < 37:
		at, k := r.Intn(12), one(r, 0, 1, 3, r.Intn(256), 256, r.Intn(2000))
		b.each(func(d *drum.Drum) { d.Arm(at, k) })
	default:
		b.each(func(d *drum.Drum) { d.On() })
		b.check(t, "behind a loss of power")
		for {
			err := b.open(t, "behind a loss of power")
			told[fmt.Sprint("Open ", err)]++
			if err != errDown {
				return err == ok
			}
			b.each(func(d *drum.Drum) { d.On() })
		}
	}
	return true
}

// Whatever befalls: answers, cores, Counts, raw operations and drums are those of the twin.
func TestP14_1_LongRowsAgainstATwin(t *testing.T) {
	t.Parallel()
	r := rand.New(rand.NewSource(142))
	told := map[string]int{}
	for n := range 300 {
		b := newBoth(t, one(r, 5, 6, 7, 9, 12, 20, 41, 100, 200))
		for range 80 {
			if !b.befall(t, r, told) {
				break
			}
		}
		if t.Failed() {
			t.Fatalf("row %d", n)
		}
	}
	for what, least := range map[string]int{"Do 0": 1000, "Do 20": 100, "Do 22": 100, "Do 33": 50, "Save 0": 100, "Save 3": 10, "Save 20": 100, "Open 0": 500, "Open 20": 20} {
		if told[what] < least {
			t.Errorf("%s: %d times alone", what, told[what])
		}
	}
}
