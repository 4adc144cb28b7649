package image_test

import (
	"bytes"
	"fmt"
	"math"
	"math/rand"
	"strconv"
	"strings"
	"testing"

	"trivet/api"
	"trivet/image"
)

// face is one of the two ways there and back, with its twin.
type face struct {
	name  string
	all   map[string]parts
	check func(t *testing.T, what string, b []byte) (read bool)
}

// checked: that bytes are read just if the twin reads them, as the same, and are given back then; with an error nothing is.
func checked[T any](read func([]byte) (T, api.Errno), write func(T) ([]byte, api.Errno), twin func([]byte) answer[T]) func(*testing.T, string, []byte) bool {
	return func(t *testing.T, what string, b []byte) bool {
		t.Helper()
		a, want := got(read(b)), twin(b)
		if !same(a, want) {
			t.Errorf("%s: of %.300q: %.1000s\nnot %.1000s", what, b, fmt.Sprintf("%+v", a), fmt.Sprintf("%+v", want))
		}
		if a.err != ok {
			return false
		}
		if back, err := write(a.what); err != ok || !bytes.Equal(back, b) {
			t.Errorf("%s: what is read of %.300q is written as %d, %.300q", what, b, err, back)
		}
		return true
	}
}

// faces: bytes of operations and of cores, and how they are checked.
func faces() []face {
	ops := map[string]parts{
		"none": opParts(), "a tick": opParts(api.Op{Kind: tick, N: 3}),
		"some": opParts(api.Op{Kind: 8, Conn: 7, Sub: 4, N: 2, Queue: "q", Auto: true}, api.Op{Kind: publish, Queue: "q", Keep: true, Msg: rich("a.b", "hi,")}, api.Op{Kind: 3, Queue: "q", Text: "a.*"}),
	}
	cores := map[string]parts{"zeros": coreParts(api.Core{}), "the base": coreParts(base())}
	return []face{
		{"operations", ops, checked(image.ReadOps, image.Ops, twinOps)},
		{"cores", cores, checked(image.Decode, image.Encode, twinCore)},
	}
}

// each goes over all bytes of all faces.
func each(t *testing.T, do func(what string, f face, p parts)) {
	for _, f := range faces() {
		for what, p := range f.all {
			what = f.name + ", " + what
			if !f.check(t, what, p.bytes()) {
				t.Errorf("%s: is read", what)
			}
			do(what, f, p)
		}
	}
}

// never: that bytes are not read.
func (f face) never(t *testing.T, what string, b []byte) {
	t.Helper()
	if f.check(t, what, b) {
		t.Errorf("%s: %.300q is read", what, b)
	}
}

func TestP13_1_TooFewBytesAndTooMany(t *testing.T) {
	each(t, func(what string, f face, p parts) {
		b := p.bytes()
		for at := range b {
			f.never(t, fmt.Sprint(what, ": cut at ", at), b[:at])
			// Now may have a digit less, or more: then it is another core's bytes.
			f.check(t, fmt.Sprint(what, ": without the first ", at+1), b[at+1:])
		}
		for c := range 256 {
			f.never(t, fmt.Sprint(what, ": a byte behind"), append(bytes.Clone(b), byte(c)))
			f.check(t, fmt.Sprint(what, ": a byte ahead"), append([]byte{byte(c)}, b...))
		}
		for _, more := range []string{"0;", "0:,", "\n", "\r\n", "\x00\x00", string(b)} {
			f.never(t, what+": more behind", append(bytes.Clone(b), more...))
			f.never(t, what+": more ahead", append([]byte(more), b...))
		}
	})
}

// otherwise: a part's bytes, written as layer 1 never writes them.
func otherwise(p part) []string {
	if p.role != aText {
		n := p.value
		return []string{
			"0" + n + ";", "00" + n + ";", "+" + n + ";", "-0" + n + ";", "--" + n + ";", " " + n + ";", n + " ;", n, n + ",", n + ":", n + ";;", n + ".0;", n + "e0;", "0x" + n + ";", n + "_0;",
			";", "", "-;", "-0;", "a;", "\x00;", "9223372036854775808;", "-9223372036854775809;", strings.Repeat("9", 100) + ";", strings.Repeat("0", 100) + n + ";",
		}
	}
	n, s := strconv.Itoa(len(p.value)), p.value
	less := strconv.Itoa(len(s) - 1)
	return []string{
		"0" + n + ":" + s + ",", "+" + n + ":" + s + ",", "-" + n + ":" + s + ",", " " + n + ":" + s + ",", n + ";" + s + ",", n + s + ",", n + ":" + s, n + ":" + s + ";", n + ":" + s + ",,", n + ":" + s + "x,",
		less + ":" + s + ",", ":" + s + ",", s + ",", "", "-1:,", "-0:,", "00:,", "9223372036854775807:" + s + ",", "9223372036854775808:" + s + ",", "-9223372036854775808:" + s + ",",
	}
}

func TestP13_1_PartsWrittenOtherwise(t *testing.T) {
	each(t, func(what string, f face, p parts) {
		for at, x := range p {
			for _, text := range otherwise(x) {
				f.never(t, fmt.Sprintf("%s: part %d, %q as %q", what, at, x.bytes(), text), p.put(at, text))
			}
		}
	})
}

func TestP13_1_TruthsAndMarks(t *testing.T) {
	each(t, func(what string, f face, p parts) {
		for at, x := range p {
			most := map[int]int{aTruth: 1, marks: 7}[x.role]
			if most == 0 {
				continue
			}
			for n := range most + 1 {
				if !f.check(t, fmt.Sprint(what, ": part ", at, " is ", n), p.put(at, fmt.Sprint(n, ";"))) {
					t.Errorf("%s: part %d may be %d", what, at, n)
				}
			}
			for _, n := range []int{most + 1, most + 2, 10, 15, 16, 256, 257, 1 << 32, 1<<32 + 1, -1, -7, -8, math.MinInt, math.MaxInt} {
				f.never(t, fmt.Sprint(what, ": part ", at, " is ", n), p.put(at, fmt.Sprint(n, ";")))
			}
		}
	})
}

func TestP13_1_Counts(t *testing.T) {
	each(t, func(what string, f face, p parts) {
		for at, x := range p {
			if x.role != aCount {
				continue
			}
			n, _ := strconv.Atoi(x.value)
			for _, other := range []int{n + 1, n + 2, n - 1, -1, 17, 33, 65, 1 << 16, 1 << 31, 1 << 32, 1<<32 + n, maxNum, math.MaxInt, math.MinInt, -n - 1} {
				f.never(t, fmt.Sprint(what, ": count ", at, " is ", other), p.put(at, fmt.Sprint(other, ";")))
				// Nothing stands behind it: enough for no operation alone.
				f.check(t, fmt.Sprint(what, ": count ", at, " is ", other, ", and that is all"), []byte(string(p[:at].bytes())+fmt.Sprint(other, ";")))
			}
		}
	})
}

// Each number and text in the place of each: read just if the twin does.
func TestP13_2_OtherParts(t *testing.T) {
	read := 0
	texts := []string{"", "a", "b", "c", "A", "#", "n.*", "i7", "b1", "f-0", "t", "x", strings.Repeat("x", 16), strings.Repeat("x", 17), strings.Repeat("x", 64), strings.Repeat("x", 65), strings.Repeat("x", 1024), strings.Repeat("x", 1025)}
	each(t, func(what string, f face, p parts) {
		for at, x := range p {
			n, _ := strconv.Atoi(x.value)
			var all []part
			for _, other := range []int{n - 1, n + 1, -n, 0, 1, 2, 5, 7, 8, 14, 15, 32, 33, 64, 65, 65535, 65536, maxNum, maxNum + 1, -1, math.MaxInt, math.MinInt} {
				all = append(all, part{aNumber, strconv.Itoa(other)})
			}
			for _, s := range texts {
				all = append(all, part{aText, s})
			}
			for _, other := range all {
				if f.check(t, fmt.Sprintf("%s: part %d, %q as %.20q", what, at, x.bytes(), other.bytes()), p.put(at, other.bytes())) {
					read++
				}
			}
		}
	})
	if read < 500 {
		t.Errorf("only %d were read", read)
	}
}

// Each byte another, gone, or twice: read just if the twin does.
func TestP13_2_OtherBytes(t *testing.T) {
	each(t, func(what string, f face, p parts) {
		b := p.bytes()
		for at := range b {
			for _, c := range []byte("019-;:,ax\x00\xff") {
				x := bytes.Clone(b)
				x[at] = c
				f.check(t, fmt.Sprint(what, ": another byte at ", at), x)
				f.check(t, fmt.Sprint(what, ": a byte more at ", at), []byte(string(b[:at])+string(rune(c))+string(b[at:])))
			}
			f.check(t, fmt.Sprint(what, ": a byte less at ", at), []byte(string(b[:at])+string(b[at+1:])))
		}
	})
}

// Whatever comes in, the call ends, and answers what the twin does.
func TestP1_AnyBytes(t *testing.T) {
	r := rand.New(rand.NewSource(134))
	pieces := []string{"0;", "1;", "2;", "5;", "14;", "0:,", "1:a,", "1:q,", "3:a.b,", "2:i7,", "-1;", ";", ":", ",", "9223372036854775807;", "9223372036854775807:,", "\xff", "x"}
	for _, f := range faces() {
		for range 20000 {
			var b []byte
			for range r.Intn(30) {
				b = append(b, one(r, pieces...)...)
			}
			f.check(t, f.name+": any pieces", b)
		}
		// Parts of what is written, put together at will.
		for range 5000 {
			var p parts
			for _, all := range f.all {
				from := r.Intn(len(all))
				p = append(p, all[from:from+r.Intn(len(all)-from+1)]...)
			}
			f.check(t, f.name+": any parts", p.bytes())
		}
		for _, long := range []string{strings.Repeat("0;", 1<<20), strings.Repeat("1;", 1<<20), "9223372036854775807;" + strings.Repeat("1;", 1<<20), strings.Repeat("9", 1<<20), strings.Repeat("0:,", 1<<20), "0;0;9223372036854775807;" + strings.Repeat("0:,", 1<<20)} {
			f.never(t, f.name+": long bytes", []byte(long))
		}
	}
}
