package keep_test

import (
	"bytes"
	"fmt"
	"math/rand"
	"strings"
	"testing"

	"trivet/api"
	"trivet/drum"
	"trivet/keep"
	"trivet/pair"
)

func TestP14_1_NilDrumSmallDrumAndNoPower(t *testing.T) {
	if k, err := keep.Open(nil); k != nil || err != errNil {
		t.Errorf("a nil drum: %v, %d", k, err)
	}
	for pages := range 5 {
		d := drum.New(pages)
		refused(t, fmt.Sprint(pages, " pages"), d, errArg)
		d.Off(0)
		refused(t, fmt.Sprint(pages, " pages without power"), d, errArg)
	}
	for _, pages := range []int{5, 6, 9, 4096} {
		d := drum.New(pages)
		d.Off(0)
		refused(t, fmt.Sprint(pages, " pages without power"), d, errDown)
		d.On()
		finds(t, fmt.Sprint(pages, " pages of noughts"), d, api.Core{}, 0)
		is(t, "raw operations", d.Ops(), 0)
	}
	d := laid(t, 9, []byte("no core"), []byte("no record"))
	d.Off(0)
	refused(t, "without power, and wrong", d, errDown)
}

// What layer 5 refuses is refused by its error, whatever stands in its bytes.
func TestP14_1_ErrorsOfLayer5(t *testing.T) {
	good := coreBytes(t, behind(t, api.Core{}, start()...))
	for what, snapshot := range map[string][]byte{"a core": good, "no core": []byte("no core")} {
		d := laid(t, 30, snapshot, opBytes(t, later(1)), []byte("no record"))
		b := all(t, d)
		lo := 1 + half(30)
		behind := lo + takes(len(snapshot))
		for _, c := range []struct {
			what string
			at   int
			to   byte
			want api.Errno
		}{
			{"a half 2", 0, 2, errForm},
			{"a half 255", 0, 255, errForm},
			{"a snapshot too long", lo * size, 1, errForm},
			{"a snapshot's seal", lo*size + 11, b[lo*size+11] + 1, errSum},
			{"a snapshot's byte", lo*size + head, b[lo*size+head] + 1, errSum},
			{"a record's mark", behind * size, 2, errForm},
			{"a record's length", behind*size + 1, 1, errForm},
			{"a record's byte", behind*size + head, b[behind*size+head] + 1, errSum},
		} {
			wrong := bytes.Clone(b)
			wrong[c.at] = c.to
			d := made(t, wrong)
			refused(t, what+": "+c.what, d, c.want)
			sameBytes(t, what+": "+c.what, d, wrong)
		}
	}
}

func TestP14_1_Snapshots(t *testing.T) {
	c := behind(t, api.Core{}, settled()...)
	for what, s := range map[string]struct {
		snapshot []byte
		want     api.Core
	}{
		"none":                 {nil, api.Core{}},
		"one without bytes":    {[]byte{}, api.Core{}},
		"the core of zeros":    {[]byte("0;0;0;0;0;0;"), api.Core{}},
		"a core":               {coreBytes(t, c), c},
		"a core of nothing":    {[]byte("7;0;0;0;0;0;"), api.Core{Now: 7}},
		"the greatest tick":    {[]byte("1099511627776;0;0;0;0;0;"), api.Core{Now: maxNum}},
		"clients and retained": {coreBytes(t, left(t, behind(t, api.Core{}, start()...))), left(t, behind(t, api.Core{}, start()...))},
	} {
		d := laid(t, 30, s.snapshot)
		ops, b := d.Ops(), all(t, d)
		finds(t, what, d, s.want, 0)
		is(t, what+": raw operations", d.Ops(), ops)
		sameBytes(t, what, d, b)
		// The records go on from there.
		d = laid(t, 30, s.snapshot, opBytes(t, later(2), later(1)), opBytes(t, later(4)))
		s.want.Now += 7
		if s.want.Now > maxNum {
			refused(t, what+" and records", d, errForm)
			continue
		}
		finds(t, what+" and records", d, s.want, 2)
	}
}

func TestP14_1_SnapshotsOfNoCore(t *testing.T) {
	good := string(coreBytes(t, behind(t, api.Core{}, start()...)))
	for _, s := range []string{
		"0", ";", "x", "0;0;0;0;0;", "0;0;0;0;0;0;0;", "-1;0;0;0;0;0;", "1099511627777;0;0;0;0;0;", "00;0;0;0;0;0;", "\x00",
		good[:len(good)-1], good + ";", good + good, good[1:], strings.Replace(good, "1:a,", "1:A,", 1), "1;14;0;0;3;0;0:,0:,",
	} {
		refused(t, fmt.Sprintf("the snapshot %.40q", s), laid(t, 30, []byte(s)), errForm)
		refused(t, fmt.Sprintf("the snapshot %.40q and a record", s), laid(t, 30, []byte(s), opBytes(t, later(1))), errForm)
	}
}

// In whichever place a wrong record stands, the opening is refused, and changes nothing.
func TestP14_1_WrongRecords(t *testing.T) {
	good := string(opBytes(t, later(1)))
	wrong := []string{"", "0", ";", "x", "\x00", "1;", "00;", "-1;", "0;0;", "0;;", good[:len(good)-1], good + ";", good + good, "17;" + strings.Repeat(good[2:], 17), "1;15;0;0;3;0;0:,0:,", "0;0;0;0;0;0;"}
	for _, list := range [][]api.Op{
		{later(maxNum - 10)}, {{Kind: remove, Queue: "c"}}, {hard("c", "x")}, {{Kind: declare, Queue: "a", N: 8}},
		{{Kind: declare, Queue: "A", N: 8}}, {{Kind: declare, Queue: "c"}}, {{Kind: bind, Queue: "a", Text: "#.a"}}, {{Kind: forget}},
		times(9, hard("a", "x")), {later(1), {Kind: ack, Queue: "a", N: 3}, later(1)}, {{Kind: subscribe, Queue: "a"}}, {{Kind: detach}, {Kind: get, Queue: "c"}},
	} {
		wrong = append(wrong, string(opBytes(t, list...)))
	}
	snapshot := coreBytes(t, api.Core{Now: 11})
	for _, w := range wrong {
		for at := range 4 {
			records := [][]byte{opBytes(t, settled()...), []byte(lost), opBytes(t, later(1))}
			records = append(records[:at:at], append([][]byte{[]byte(w)}, records[at:]...)...)
			d := laid(t, 60, snapshot, records...)
			b := all(t, d)
			refused(t, fmt.Sprintf("the record %.40q in place %d", w, at), d, errForm)
			sameBytes(t, "a refused opening", d, b)
		}
	}
}

// A record without operations is a loss of power: what comes behind it meets what outlived it.
func TestP14_1_RecordsWithoutOperations(t *testing.T) {
	want := left(t, behind(t, api.Core{}, start()...))
	// Only behind a loss can it be subscribed once more, b be declared otherwise, and what was held be handed out anew.
	anew := []api.Op{{Kind: subscribe, Conn: 1, Sub: 4, Queue: "a", N: 1}, {Kind: declare, Queue: "b", Durable: true, N: 3}, {Kind: ack, Conn: 1, Queue: "a", N: 2}, {Kind: detach, Conn: 1}}
	want = left(t, behind(t, want, anew...))
	d := laid(t, 30, nil, opBytes(t, start()...), []byte(lost), opBytes(t, anew...))
	finds(t, "a loss in between", d, want, 3)
	// The same with as many losses as one likes, at the beginning and at the end too.
	d = laid(t, 30, coreBytes(t, behind(t, api.Core{}, start()...)), []byte(lost), []byte(lost), opBytes(t, anew...), []byte(lost), []byte(lost))
	ops := d.Ops()
	finds(t, "many losses", d, want, 5)
	is(t, "raw operations", d.Ops(), ops)
	refused(t, "without the loss", laid(t, 30, nil, opBytes(t, start()...), opBytes(t, anew...)), errForm)
	finds(t, "a loss alone", laid(t, 5, nil, []byte(lost)), api.Core{}, 1)
}

// changing: what a loss of power changes, one thing at a time: operations behind settled ones.
func changing() map[string][]api.Op {
	return map[string][]api.Op{
		"a subscription":           {{Kind: declare, Queue: "e", Durable: true, N: 1}, {Kind: subscribe, Conn: 0, Sub: 0, Queue: "e", N: 1}},
		"what is held":             {{Kind: get, Conn: 7, Sub: 3, Queue: "a"}},
		"a message":                {soft("a", "x")},
		"a queue":                  {{Kind: declare, Queue: "e", N: 1}},
		"a queue with a bind":      {{Kind: declare, Queue: "e", N: 1}, {Kind: bind, Queue: "e", Text: "#"}},
		"a queue and what lasts":   {{Kind: declare, Queue: "e", N: 1}, hard("e", "x")},
		"some of all":              {{Kind: declare, Queue: "e", N: 1}, {Kind: subscribe, Conn: 1, Sub: 4, Queue: "a", N: 1}, soft("a", "x"), hard("e", "x")},
		"what is held and is soft": {soft("a", "x"), {Kind: get, Conn: 1, Queue: "a", Auto: true}, {Kind: get, Conn: 1, Queue: "a"}},
	}
}

// lasting: what a loss of power leaves as it is.
func lasting() map[string][]api.Op {
	return map[string][]api.Op{
		"ticks":                 {later(9)},
		"retained, not to last": {{Kind: unbind, Queue: "a", Text: "#"}, {Kind: publish, Msg: api.Msg{Topic: "k", Body: "x"}, Keep: true, Text: "me", N: 3}},
		"a client":              {{Kind: publish, Msg: api.Msg{Topic: "a", Durable: true}, Text: "me", N: 3}},
		"what was put back":     {{Kind: get, Conn: 1, Queue: "a"}, {Kind: nack, Conn: 1, Queue: "a", N: 1, Auto: true}},
		"what is done with":     {{Kind: get, Conn: 1, Queue: "a"}, {Kind: ack, Conn: 1, Queue: "a", N: 1}},
		"who is gone":           {{Kind: subscribe, Conn: 1, Sub: 4, Queue: "a", N: 1}, {Kind: detach, Conn: 1}},
		"a bind":                {{Kind: bind, Queue: "a", Text: "x.*"}},
	}
}

func TestP14_1_AnOpeningThatChangesNothing(t *testing.T) {
	for what, list := range lasting() {
		for _, saved := range []bool{false, true} {
			d := drum.New(30)
			k := opened(t, d)
			done(t, k, settled()...)
			done(t, k, list...)
			count := 2
			if saved {
				fine(t, "Save", k.Save())
				count = 0
			}
			want := k.Core()
			is(t, what+": outlives", left(t, want), want)
			d.Off(0)
			d.On()
			d.Arm(1, 0)
			ops, b := d.Ops(), all(t, d)
			for range 3 {
				finds(t, what, d, want, count)
			}
			is(t, what+": raw operations", d.Ops(), ops)
			sameBytes(t, what, d, b)
			// What was armed still is.
			if err := d.Flush(); err != errDown {
				t.Errorf("%s: an opening took away what was armed", what)
			}
		}
	}
}

func TestP14_1_AnOpeningThatAppends(t *testing.T) {
	for what, list := range changing() {
		for _, saved := range []bool{false, true} {
			d := drum.New(30)
			k := opened(t, d)
			done(t, k, settled()...)
			done(t, k, list...)
			count := 2
			if saved {
				fine(t, "Save", k.Save())
				count = 0
			}
			c := k.Core()
			want := left(t, c)
			if same(want, c) {
				t.Errorf("%s: changes nothing", what)
			}
			// The same by layer 5's hand.
			twin := made(t, all(t, d))
			p, _, _, _ := pair.Open(twin)
			ops, twinOps := d.Ops(), twin.Ops()
			fine(t, "Append", p.Append([]byte(lost)))
			k = finds(t, what, d, want, count+1)
			is(t, what+": raw operations", d.Ops()-ops, twin.Ops()-twinOps)
			sameBytes(t, what, d, all(t, twin))
			// Opened twice it changes nothing more.
			ops = d.Ops()
			finds(t, what+", twice", d, want, count+1)
			is(t, what+": raw operations, twice", d.Ops(), ops)
			// And what is done then goes on from there.
			k = opened(t, d)
			done(t, k, later(1))
			want.Now++
			finds(t, what+", and on", d, want, count+2)
		}
	}
}

// filled: a drum whose records leave so many bytes of a half, with something on it that a loss of power changes, and the core on it.
func filled(t *testing.T, pages, room int) (*drum.Drum, api.Core) {
	t.Helper()
	d := drum.New(pages)
	k := opened(t, d)
	rest := (half(pages) - 1) * size
	lay := func(list ...api.Op) {
		done(t, k, list...)
		rest -= head + len(opBytes(t, list...))
	}
	lay(api.Op{Kind: declare, Queue: "a", Durable: true, N: 8}, api.Op{Kind: subscribe, Conn: 1, Sub: 4, Queue: "a", N: 5})
	lay(hard("a", "x"), soft("a", "y"))
	for rest-room > 900 {
		lay(padded(t, 800))
	}
	if rest-room > head+40 {
		lay(padded(t, rest-room-head))
	}
	is(t, "the bytes that are left", rest, room)
	return d, k.Core()
}

// The record takes 14 bytes: if there are fewer, the core is saved.
func TestP14_1_AnOpeningThatFindsNoRoom(t *testing.T) {
	for _, pages := range []int{5, 6, 7, 9, 12, 31} {
		for room := range 17 {
			what := fmt.Sprintf("%d pages, %d bytes are left", pages, room)
			d, c := filled(t, pages, room)
			want := left(t, c)
			twin := made(t, all(t, d))
			p, _, records, _ := pair.Open(twin)
			ops, twinOps := d.Ops(), twin.Ops()
			count := 0
			if room < 14 {
				fine(t, what, p.Save(coreBytes(t, want)))
				is(t, what+": the raw operations told", twin.Ops()-twinOps, takes(len(coreBytes(t, want)))+4)
			} else {
				fine(t, what, p.Append([]byte(lost)))
				count = len(records) + 1
			}
			k := finds(t, what, d, want, count)
			is(t, what+": raw operations", d.Ops()-ops, twin.Ops()-twinOps)
			sameBytes(t, what, d, all(t, twin))
			ops = d.Ops()
			k = finds(t, what+", twice", d, want, count)
			is(t, what+": raw operations, twice", d.Ops(), ops)
			if room < 14 {
				done(t, k, later(1))
			} else if a := do(k, later(1)); a.err != errFull {
				t.Errorf("%s: one more: %d", what, a.err)
			}
		}
	}
}

// Neither is there room for the record, nor for the core: one message that is for many queues has more bytes there than in its record.
func TestP14_1_AnOpeningWithNoRoomAtAll(t *testing.T) {
	for _, room := range []int{0, 13, 14} {
		d := drum.New(9)
		k := opened(t, d)
		rest := 3 * size
		lay := func(list ...api.Op) {
			done(t, k, list...)
			rest -= head + len(opBytes(t, list...))
		}
		for _, q := range []string{"a", "b", "c", "d"} {
			lay(api.Op{Kind: declare, Queue: q, Durable: true, N: 1}, api.Op{Kind: bind, Queue: q, Text: "#"})
		}
		lay(hard("", strings.Repeat("x", 200)), api.Op{Kind: subscribe, Queue: "a", N: 1})
		lay(api.Op{Kind: unbind, Queue: "a", Text: "#"}, api.Op{Kind: unbind, Queue: "b", Text: "#"}, api.Op{Kind: unbind, Queue: "c", Text: "#"}, api.Op{Kind: unbind, Queue: "d", Text: "#"})
		lay(padded(t, rest-room-head))
		is(t, "the bytes that are left", rest, room)
		if n := len(coreBytes(t, left(t, k.Core()))); n <= 3*size-head {
			t.Fatalf("a core of %d bytes", n)
		}
		if room == 14 {
			finds(t, "with room for the record", d, left(t, k.Core()), k.Count()+1)
			continue
		}
		b := all(t, d)
		for range 2 {
			refused(t, "with no room at all", d, errLong)
			sameBytes(t, "with no room at all", d, b)
		}
	}
}

// Over drums on which a raw hand has laid any records, or changed a bit.
func TestP14_1_EveryDrum(t *testing.T) {
	r := rand.New(rand.NewSource(141))
	told := map[api.Errno]int{}
	for range 2000 {
		var c api.Core
		var records [][]byte
		for range r.Intn(6) {
			list := someList(r, c, 1+r.Intn(4), 30)
			if r.Intn(5) == 0 {
				list = nil
			}
			records = append(records, opBytes(t, list...))
			if after, err := read(c, records[len(records)-1]); err == ok {
				c = after
			}
		}
		var snapshot []byte
		if r.Intn(2) == 0 {
			snapshot = coreBytes(t, c)
		}
		if r.Intn(3) == 0 {
			records = nil
		}
		b := all(t, laid(t, 61+r.Intn(2), snapshot, records...))
		if r.Intn(4) == 0 {
			b[one(r, 0, 1, 2, 31, 32)*size+r.Intn(300)] ^= byte(1 << r.Intn(8))
		}
		d := made(t, b)
		ops := d.Ops()
		want, err := tells(d)
		told[err]++
		k, got := keep.Open(d)
		if got != err || (k == nil) != (err != ok) {
			t.Fatalf("Open: %v, %d, not %d", k, got, err)
		}
		if err != ok {
			is(t, "raw operations", d.Ops(), ops)
			sameBytes(t, "a refused opening", d, b)
			continue
		}
		is(t, "the core", k.Core(), want)
		_, l := found(t, d)
		is(t, "Count", k.Count(), len(l))
	}
	for err, least := range map[api.Errno]int{ok: 500, errForm: 50, errSum: 50} {
		if told[err] < least {
			t.Errorf("error %d: %d drums alone", err, told[err])
		}
	}
}
