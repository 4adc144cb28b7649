package keep_test

import (
	"fmt"
	"math/rand"
	"testing"

	"trivet/api"
	"trivet/core"
	"trivet/drum"
	"trivet/keep"
)

// refuse: all that a Keep refuses whose drum has power and room, one behind the other; how often, by error.
func refuse(t *testing.T, k *keep.Keep, long []api.Op, told map[api.Errno]int) {
	t.Helper()
	var lists [][]api.Op
	for _, r := range refusals() {
		// Not of all cores.
		if _, _, err := core.Do(k.Core(), r.op); err != ok {
			lists = append(lists, []api.Op{r.op}, []api.Op{later(1), padded(t, 200), r.op})
		}
	}
	for _, o := range wrongOps() {
		lists = append(lists, []api.Op{o}, []api.Op{later(1), o})
	}
	lists = append(lists, nil, times(17, later(1)), times(16, hard("a", "x")), long)
	for _, list := range lists {
		if a := do(k, list...); a.err != ok {
			told[a.err]++
			is(t, "beside an error", a.out, nil)
		} else {
			t.Fatalf("done: %+v", list)
		}
	}
}

func TestP14_3_WhatIsRefusedChangesNothing(t *testing.T) {
	told := map[api.Errno]int{}
	long := greatest(t, most+1)
	for _, s := range stands()[2:] {
		d, k := s.made(t)
		// Its twin is refused nothing.
		e, l := s.made(t)
		check := func(what string) {
			t.Helper()
			what = s.what + ": " + what
			holds(t, what, k, l.Core(), l.Count())
			is(t, what+": raw operations", d.Ops(), e.Ops())
			sameBytes(t, what, d, all(t, e))
		}
		for n := range 3 {
			refuse(t, k, long, told)
			check("refused")
			d.Off(0)
			is(t, "Do without power", do(k, later(1)), answer{err: errDown})
			is(t, "Save without power", k.Save(), errDown)
			d.On()
			check("without power")
			is(t, "the same is answered", do(k, fleeting()...), do(l, fleeting()...))
			check("done")
			done(t, k, later(n))
			done(t, l, later(n))
		}
		is(t, "the same is saved", k.Save(), l.Save())
		check("saved")
		is(t, "the same is found", opened(t, d).Core(), opened(t, e).Core())
	}
	for _, err := range []api.Errno{errArg, errTopic, errName, errThere, errNone, errDeep, errLong} {
		if told[err] < 10 {
			t.Errorf("error %d: %d times alone", err, told[err])
		}
	}
}

// No room for a record, and none for a snapshot.
func TestP14_3_NoRoomChangesNothing(t *testing.T) {
	d := drum.New(9)
	k := opened(t, d)
	list := sized(t, 3*size-head+1)
	done(t, k, list...)
	rest := 3*size - head - len(opBytes(t, list...))
	c, ops, b := k.Core(), d.Ops(), all(t, d)
	for n := rest - head + 1; n < rest+100; n++ {
		is(t, fmt.Sprint("Do of ", n), do(k, padded(t, n)), answer{err: errFull})
		is(t, "Save", k.Save(), errLong)
		holds(t, "no room", k, c, 1)
	}
	is(t, "raw operations", d.Ops(), ops)
	sameBytes(t, "no room", d, b)
	done(t, k, padded(t, rest-head))
	finds(t, "what fits", d, c, 2)
}

// Saves here and there: the answers, the cores and what is found are those of a drum on which nothing is ever saved.
func TestP14_4_SavesChangeNothing(t *testing.T) {
	t.Parallel()
	r := rand.New(rand.NewSource(148))
	told := map[string]int{}
	for range 80 {
		d, e := drum.New(400), drum.New(4000)
		k, l := opened(t, d), opened(t, e)
		reopen := func() {
			d.Off(0)
			e.Off(0)
			d.On()
			e.On()
			k, l = opened(t, d), opened(t, e)
		}
		for range 40 {
			switch r.Intn(8) {
			case 0, 1:
				fine(t, "Save", k.Save())
				is(t, "Count", k.Count(), 0)
				told["saved"]++
			case 2:
				// The power goes in a Save; on the other drum it goes as well.
				d.Arm(1+r.Intn(9), one(r, one(r, keptEdges...), r.Intn(1500)))
				if k.Save() == errDown {
					told["lost in a Save"]++
				}
				reopen()
			case 3:
				// It goes at the very beginning of a Do, so none of it is kept.
				list := someList(r, l.Core(), 1+r.Intn(3), 1<<30)
				d.Arm(1, 0)
				e.Arm(1, 0)
				is(t, "Do", do(k, list...), do(l, list...))
				told["lost in a Do"]++
				reopen()
			case 4:
				reopen()
			}
			list := someList(r, l.Core(), 1+r.Intn(5), 20)
			is(t, "Do", do(k, list...), do(l, list...))
			is(t, "the core", k.Core(), l.Core())
		}
		reopen()
		is(t, "what is found", k.Core(), l.Core())
		if t.Failed() {
			return
		}
	}
	for _, what := range []string{"saved", "lost in a Save", "lost in a Do"} {
		if told[what] < 100 {
			t.Errorf("%s: %d times alone", what, told[what])
		}
	}
}

// A Save by itself leaves the core, and behind it stands no record.
func TestP14_4_SavesOfAllStands(t *testing.T) {
	for _, s := range stands() {
		d, k := s.made(t)
		c := k.Core()
		for range 3 {
			fine(t, s.what, k.Save())
			holds(t, s.what, k, c, 0)
			snapshot, records := found(t, d)
			is(t, s.what+": the snapshot", string(snapshot), string(coreBytes(t, c)))
			is(t, s.what+": the records", len(records), 0)
		}
		l := opened(t, d)
		is(t, s.what+": what is found", l.Core(), left(t, c))
	}
}
