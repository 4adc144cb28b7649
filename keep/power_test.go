package keep_test

import (
	"fmt"
	"math/rand"
	"strings"
	"testing"

	"trivet/api"
	"trivet/drum"
	"trivet/keep"
)

// stand is what was done ahead of a call in which the power goes: operations done as one, each list behind the other; an empty one is a Save.
type stand struct {
	what  string
	pages int
	lists [][]api.Op
}

// made: the stand's drum, and the Keep by which all was done.
func (s stand) made(t *testing.T) (*drum.Drum, *keep.Keep) {
	t.Helper()
	d := drum.New(s.pages)
	k := opened(t, d)
	for _, list := range s.lists {
		call(list).sure(t, k)
	}
	return d, k
}

// call is a call in which the power goes: a Do of operations, or, without any, a Save.
type call []api.Op

func (c call) made(k *keep.Keep) api.Errno {
	if len(c) == 0 {
		return k.Save()
	}
	return do(k, c...).err
}

func (c call) sure(t *testing.T, k *keep.Keep) {
	t.Helper()
	fine(t, fmt.Sprintf("%.100s", fmt.Sprintf("%+v", c)), c.made(k))
}

// behind: the core behind the call, if it was done.
func (c call) behind(t *testing.T, ahead api.Core) api.Core {
	t.Helper()
	if len(c) == 0 {
		return ahead
	}
	return behind(t, ahead, c...)
}

// fleeting: operations behind start, some of which hand out, and of which only a part outlives a loss.
func fleeting() []api.Op {
	return []api.Op{soft("a", "five"), hard("a", "six"), {Kind: ack, Conn: 1, Queue: "a", N: 1}, {Kind: declare, Queue: "e", N: 3}, later(1)}
}

func stands() []stand {
	long := []api.Op{hard("a", strings.Repeat("x", 700))}
	return []stand{
		{"nothing", 11, nil},
		{"a snapshot of nothing", 11, [][]api.Op{nil}},
		{"records", 21, [][]api.Op{start(), {later(1)}}},
		{"a snapshot", 21, [][]api.Op{start(), nil}},
		{"a snapshot and records", 21, [][]api.Op{start(), nil, {later(1)}, {hard("a", "x")}}},
		{"two snapshots", 25, [][]api.Op{start(), nil, long, nil, {later(1)}}},
		{"an even number of pages", 22, [][]api.Op{start(), nil, {soft("a", "y")}}},
		{"long records", 30, [][]api.Op{start(), long, {later(1)}}},
	}
}

// calls: those in which the power goes over a stand.
func (s stand) calls() []call {
	if len(s.lists) < 2 {
		return []call{start(), settled(), {later(1)}, nil}
	}
	return []call{fleeting(), {later(1)}, {hard("a", strings.Repeat("y", 400)), {Kind: detach, Conn: 1}}, nil}
}

// raws: how many raw operations something makes.
func raws(d *drum.Drum, f func()) int {
	ops := d.Ops()
	f()
	return d.Ops() - ops
}

// keptEdges: how many bytes may be kept: none, all, and what is around a mark, a head and a page.
var keptEdges = []int{-1, 0, 1, 2, 11, 12, 13, 14, 15, 100, 200, 255, 256, 257, 300, 511, 512, 513, 769, 1025, 100000}

// either: that a Keep's core is the one or the other; whether it is the other.
func either(t *testing.T, what string, k *keep.Keep, ahead, after api.Core) bool {
	t.Helper()
	switch c := k.Core(); {
	case same(c, after):
		return true
	case !same(c, ahead):
		t.Fatalf("%s: %+v\nnot %+v\nand not %+v", what, c, ahead, after)
	}
	return false
}

// lossIn: the power goes in the n-th raw operation of a call (behind it, if it has fewer), with so many bytes kept: the drum's bytes behind it; whether the call is found there.
func lossIn(t *testing.T, what string, d *drum.Drum, k *keep.Keep, c call, n, kept int) ([]byte, bool) {
	t.Helper()
	ahead, count := k.Core(), k.Count()
	after := c.behind(t, ahead)
	d.Arm(n, kept)
	err := c.made(k)
	switch {
	case err == ok && !d.Down():
		d.Off(kept)
		ahead = after
	case err == errDown && d.Down():
		holds(t, what+": the Keep that ended", k, ahead, count)
	default:
		t.Fatalf("%s: %d, down %v", what, err, d.Down())
	}
	refused(t, what, d, errDown)
	d.On()
	b := all(t, d)
	k = opened(t, d)
	is := either(t, what, k, left(t, ahead), left(t, after))
	goesOn(t, what, d, k)
	return b, is
}

// goesOn: a Keep that was opened is found anew, by itself and behind more that is done.
func goesOn(t *testing.T, what string, d *drum.Drum, k *keep.Keep) {
	t.Helper()
	c := k.Core()
	ops := d.Ops()
	k = finds(t, what+", once more", d, c, k.Count())
	is(t, what+", once more: raw operations", d.Ops(), ops)
	if do(k, later(2)).err == errFull {
		fine(t, what+": Save", k.Save())
		done(t, k, later(2))
	}
	c.Now += 2
	finds(t, what+", and on", d, c, k.Count())
}

// lossOnOpening: the power goes in each raw operation of an opening too: what is found then is the same.
func lossOnOpening(t *testing.T, what string, b []byte, kepts []int) {
	t.Helper()
	d := made(t, b)
	var k *keep.Keep
	n := raws(d, func() { k = opened(t, d) })
	c, count := k.Core(), k.Count()
	want := all(t, d)
	for at := 1; at <= n; at++ {
		for _, kept := range kepts {
			what := fmt.Sprintf("%s; and in raw operation %d of Open, %d kept", what, at, kept)
			d := made(t, b)
			d.Arm(at, kept)
			if k, err := keep.Open(d); k != nil || err != errDown || !d.Down() {
				t.Fatalf("%s: %v, %d", what, k, err)
			}
			d.On()
			finds(t, what, d, c, count)
			ops := d.Ops()
			finds(t, what+", twice", d, c, count)
			is(t, what+", twice: raw operations", d.Ops(), ops)
			// What stands where nothing counts may be another one; what counts is as if nothing had been.
			s, l := found(t, d)
			wantS, wantL := found(t, made(t, want))
			is(t, what+": what is laid down", fmt.Sprintf("%q %q", s, l), fmt.Sprintf("%q %q", wantS, wantL))
		}
	}
}

func TestP14_2_ThePowerGoesInEachRawOperation(t *testing.T) {
	t.Parallel()
	for _, s := range stands() {
		for _, c := range s.calls() {
			d, k := s.made(t)
			n := raws(d, func() { c.sure(t, k) })
			seen := [2]int{}
			for at := 1; at <= n+1; at++ {
				for i, kept := range keptEdges {
					what := fmt.Sprintf("%s; in raw operation %d of %.60s, %d kept", s.what, at, fmt.Sprintf("%+v", c), kept)
					d, k := s.made(t)
					b, is := lossIn(t, what, d, k, c, at, kept)
					if len(c) > 0 {
						seen[map[bool]int{false: 0, true: 1}[is]]++
					}
					if i%5 == 0 || kept == 13 {
						lossOnOpening(t, what, b, []int{0, 14, 255, 300, 100000})
					}
				}
			}
			if len(c) > 0 && (seen[0] < 20 || seen[1] < 20) {
				t.Errorf("%s: not found, found: %v", s.what, seen)
			}
		}
		if t.Failed() {
			return
		}
	}
}

// Every number of bytes kept, where an opening changes nothing: so a Keep is had of the bytes.
func TestP14_2_EveryNumberOfBytesKept(t *testing.T) {
	t.Parallel()
	for _, s := range []stand{
		{"nothing", 9, nil},
		{"a record", 9, [][]api.Op{settled()}},
		{"a snapshot and a record", 10, [][]api.Op{settled(), nil, {later(100)}}},
	} {
		d, _ := s.made(t)
		b := all(t, d)
		for _, c := range []call{{later(1)}, {later(1), {Kind: publish, Msg: api.Msg{Topic: "t", Body: strings.Repeat("x", 300)}}}, nil} {
			d, k := s.made(t)
			n := raws(d, func() { c.sure(t, k) })
			for at := 1; at <= n; at++ {
				for kept := 0; kept <= min(at, n-3)*size+1; kept++ {
					d := made(t, b)
					k := opened(t, d)
					lossIn(t, fmt.Sprintf("%s; in raw operation %d of %.60s, %d kept", s.what, at, fmt.Sprintf("%+v", c), kept), d, k, c, at, kept)
				}
			}
		}
		if t.Failed() {
			return
		}
	}
}

// The power goes in openings that append, and in those that save: with every number of bytes kept.
func TestP14_2_ThePowerGoesInOpen(t *testing.T) {
	t.Parallel()
	var kepts []int
	for kept := range 2*size + 2 {
		kepts = append(kepts, kept)
	}
	for _, s := range []stand{
		{"records", 21, [][]api.Op{start()}},
		{"a snapshot", 21, [][]api.Op{start(), nil}},
		{"a snapshot and records", 21, [][]api.Op{start(), nil, fleeting()}},
	} {
		d, _ := s.made(t)
		lossOnOpening(t, s.what, all(t, d), kepts)
	}
	for _, room := range []int{0, 13} {
		d, _ := filled(t, 9, room)
		lossOnOpening(t, "no room", all(t, d), kepts)
	}
}

// Losses in openings one behind the other, as many as one likes.
func TestP14_2_ManyLossesInOpenings(t *testing.T) {
	r := rand.New(rand.NewSource(145))
	for range 150 {
		d, c := filled(t, one(r, 5, 9, 12), r.Intn(40)/2)
		if r.Intn(2) == 0 {
			var k *keep.Keep
			d, k = one(r, stands()[2:]...).made(t)
			c = k.Core()
		}
		for range r.Intn(6) {
			d.Arm(1+r.Intn(6), one(r, keptEdges...))
			k, err := keep.Open(d)
			if err == ok {
				is(t, "the core", k.Core(), left(t, c))
			} else if err != errDown {
				t.Fatalf("Open: %d", err)
			}
			d.Off(r.Intn(300))
			d.On()
		}
		k := opened(t, d)
		is(t, "the core", k.Core(), left(t, c))
		goesOn(t, "many losses", d, k)
	}
}

// Between two calls nothing waits, so nothing can be lost.
func TestP14_2_ThePowerGoesBetweenCalls(t *testing.T) {
	for _, s := range stands() {
		for _, kept := range keptEdges {
			d, k := s.made(t)
			c := k.Core()
			d.Off(kept)
			d.On()
			k = opened(t, d)
			is(t, s.what, k.Core(), left(t, c))
			goesOn(t, s.what, d, k)
		}
	}
}

// A call's operations are found all, or none: 16 of them, each of which can be told.
func TestP14_2_AllOrNone(t *testing.T) {
	t.Parallel()
	list := []api.Op{{Kind: declare, Queue: "a", Durable: true, N: 20}}
	for n := range 15 {
		list = append(list, hard("a", fmt.Sprintf("%d %s", n, strings.Repeat("x", 30))))
	}
	seen := map[int]int{}
	for at := 1; at <= 9; at++ {
		for kept := 0; kept < 1600; kept += 7 {
			d := drum.New(21)
			k := opened(t, d)
			d.Arm(at, kept)
			err := do(k, list...).err
			d.Off(kept)
			d.On()
			c := opened(t, d).Core()
			n := 0
			if len(c.Queues) > 0 {
				n = len(c.Queues[0].Items)
			}
			seen[n]++
			if n != 0 && n != 15 || n == 0 && len(c.Queues) > 0 || err == ok && n == 0 {
				t.Fatalf("in raw operation %d, %d kept: error %d, %d are there", at, kept, err, n)
			}
		}
	}
	if seen[0] < 100 || seen[15] < 100 {
		t.Errorf("none, all: %v", seen)
	}
}

// Long rows of calls and losses: what was answered is always there, in order, and of what was under way all or nothing.
func TestP14_2_ManyLosses(t *testing.T) {
	t.Parallel()
	r := rand.New(rand.NewSource(146))
	told := map[string]int{}
	for range 120 {
		d := drum.New(one(r, 9, 12, 21, 40, 100))
		k := opened(t, d)
		c := k.Core()
		for range 60 {
			ahead, after := c, c
			if r.Intn(3) == 0 {
				d.Arm(1+r.Intn(8), one(r, one(r, keptEdges...), r.Intn(800)))
			}
			if r.Intn(8) == 0 {
				d.Off(r.Intn(300))
			}
			off := d.Down()
			var err api.Errno
			if r.Intn(5) == 0 {
				err = k.Save()
			} else {
				list := someList(r, c, 1+r.Intn(4), 1<<30)
				if err = do(k, list...).err; err == ok || err == errDown && !off {
					after = behind(t, c, list...)
				}
			}
			told[fmt.Sprint("call ", err)]++
			switch {
			case err == ok:
				c = after
			case err == errFull:
				if k.Save() == errDown {
					err = errDown
				}
			}
			if err != errDown && r.Intn(6) > 0 {
				continue
			}
			k = reopened(t, r, d)
			if k == nil {
				// Nothing fits there any more, not even the core.
				break
			}
			if err != errDown {
				ahead = c
			}
			told[fmt.Sprint("found ", either(t, "many losses", k, left(t, ahead), left(t, after)))]++
			c = k.Core()
		}
	}
	for what, least := range map[string]int{"call 0": 1000, "call 20": 200, "call 22": 100, "found true": 500, "found false": 100} {
		if told[what] < least {
			t.Errorf("%s: %d times alone: %v", what, told[what], told)
		}
	}
}

// reopened: the Keep of a drum behind a loss of power, and often losses in its opening; nil, if there is no room for it.
func reopened(t *testing.T, r *rand.Rand, d *drum.Drum) *keep.Keep {
	t.Helper()
	for {
		d.Off(r.Intn(300))
		d.On()
		if r.Intn(2) == 0 {
			d.Arm(1+r.Intn(6), one(r, keptEdges...))
		}
		k, err := keep.Open(d)
		switch err {
		case ok:
			d.Arm(0, 0)
			return k
		case errLong:
			return nil
		case errDown:
		default:
			t.Fatalf("Open: %d", err)
		}
	}
}
