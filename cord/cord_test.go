package cord_test

import (
	"bytes"
	"fmt"
	"math"
	"math/rand"
	"slices"
	"strings"
	"testing"

	"trivet/cord"
)

// The exact signatures: the test isn't built if one is another.
var (
	_ func([]byte, ...int) []byte = cord.Num
	_ func([]byte, string) []byte = cord.Str
	_ func([]byte) *cord.Reader   = cord.New
	_ func(*cord.Reader) int      = (*cord.Reader).Num
	_ func(*cord.Reader) int      = (*cord.Reader).Count
	_ func(*cord.Reader) string   = (*cord.Reader).Str
	_ func(*cord.Reader) bool     = (*cord.Reader).Bad
	_ func(*cord.Reader) int      = (*cord.Reader).Left
	_ func(*cord.Reader) bool     = (*cord.Reader).End
)

// state is all that a reader tells of itself.
type state struct {
	Bad  bool
	Left int
	End  bool
}

func look(r *cord.Reader) state {
	return state{r.Bad(), r.Left(), r.End()}
}

// spoilt is a reader's state behind something that wasn't there, and a nil reader's.
var spoilt = state{Bad: true}

// The bytes below are written out by hand, so that writer and reader can't be wrong alike.

func TestP1_1_NumWrites(t *testing.T) {
	for _, c := range []struct {
		ahead string
		list  []int
		want  string
	}{
		{"", nil, ""},
		{"", []int{}, ""},
		{"x", nil, "x"},
		{"", []int{0}, "0;"},
		{"", []int{0, -12}, "0;-12;"},
		{"", []int{1, 9, 10, 99, 100, -1, -9, -10}, "1;9;10;99;100;-1;-9;-10;"},
		{"", []int{math.MaxInt}, "9223372036854775807;"},
		{"", []int{math.MinInt}, "-9223372036854775808;"},
		{"", []int{math.MaxInt - 1, math.MinInt + 1}, "9223372036854775806;-9223372036854775807;"},
		{"5;", []int{7, 7}, "5;7;7;"},
		{"not a thing\x00", []int{3}, "not a thing\x003;"},
	} {
		if got := cord.Num([]byte(c.ahead), c.list...); string(got) != c.want {
			t.Errorf("Num(%q, %v) = %q, want %q", c.ahead, c.list, got, c.want)
		}
	}
	if got := cord.Num(nil); len(got) != 0 {
		t.Errorf("Num of nothing and no numbers: %q", got)
	}
	if got := cord.Num(nil, 4); string(got) != "4;" {
		t.Errorf("Num of nil and 4: %q", got)
	}
}

func TestP1_1_NumWritesManyAtOnce(t *testing.T) {
	var list []int
	var want strings.Builder
	for n := -5000; n < 5000; n++ {
		list = append(list, n)
		fmt.Fprintf(&want, "%d;", n)
	}
	if got := cord.Num(nil, list...); string(got) != want.String() {
		t.Error("10000 numbers at once aren't the bytes of each, in order")
	}
}

func TestP1_1_StrWrites(t *testing.T) {
	for _, c := range []struct{ ahead, s, want string }{
		{"", "", "0:,"},
		{"", "hi", "2:hi,"},
		{"x", "hi", "x2:hi,"},
		{"2:hi,", "", "2:hi,0:,"},
		{"", ",", "1:,,"},
		{"", "1:a,2;", "6:1:a,2;,"},
		{"", "\x00\xff\n", "3:\x00\xff\n,"},
		{"", "é", "2:é,"},
		{"", "123456789", "9:123456789,"},
		{"", "1234567890", "10:1234567890,"},
		{"", strings.Repeat("z", 1000), "1000:" + strings.Repeat("z", 1000) + ","},
	} {
		if got := cord.Str([]byte(c.ahead), c.s); string(got) != c.want {
			t.Errorf("Str(%q, %q) = %q, want %q", c.ahead, c.s, got, c.want)
		}
	}
	if got := cord.Str(nil, "hi"); string(got) != "2:hi," {
		t.Errorf("Str of nil and hi: %q", got)
	}
}

func TestP1_1_NumReads(t *testing.T) {
	for _, c := range []struct {
		in   string
		want int
		left int
	}{
		{"0;", 0, 0},
		{"-12;", -12, 0},
		{"7;8;", 7, 2},
		{"10;", 10, 0},
		{"-1;junk", -1, 4},
		{"9223372036854775807;", math.MaxInt, 0},
		{"-9223372036854775808;", math.MinInt, 0},
		{"9223372036854775807;;", math.MaxInt, 1},
	} {
		r := cord.New([]byte(c.in))
		if got, s := r.Num(), look(r); got != c.want || s != (state{false, c.left, c.left == 0}) {
			t.Errorf("Num of %q: %d, %+v", c.in, got, s)
		}
		r = cord.New([]byte(c.in))
		got, s := r.Count(), look(r)
		if c.want < 0 && (got != 0 || s != spoilt) {
			t.Errorf("Count of %q, below 0: %d, %+v", c.in, got, s)
		}
		if c.want >= 0 && (got != c.want || s != (state{false, c.left, c.left == 0})) {
			t.Errorf("Count of %q: %d, %+v", c.in, got, s)
		}
	}
}

func TestP1_1_NoNumber(t *testing.T) {
	for _, in := range []string{
		"", ";", "-;", "--1;", "1-;", "12", "-12", "1",
		"007;", "00;", "01;", "-0;", "-00;", "-01;", "+1;", "+0;", " 1;", "1 ;", "\n1;",
		"1,", "1:", "1:2;", "a;", "1a;", "0x1;", "1_0;", "1.0;", "1e3;", "\x001;", "1\x00;", "١;",
		"2:hi,", "3:1;,", "1,2;", ",1;",
		"9223372036854775808;", "-9223372036854775809;", "10000000000000000000;", "18446744073709551616;", "18446744073709551617;",
		"00000000000000000000000000000001;", strings.Repeat("9", 1000) + ";", "-" + strings.Repeat("0", 1000) + "1;", strings.Repeat("1", 1000),
	} {
		r := cord.New([]byte(in))
		if got, s := r.Num(), look(r); got != 0 || s != spoilt {
			t.Errorf("Num of %q: %d, %+v", in, got, s)
		}
		r = cord.New([]byte(in))
		if got, s := r.Count(), look(r); got != 0 || s != spoilt {
			t.Errorf("Count of %q: %d, %+v", in, got, s)
		}
	}
}

func TestP1_1_StrReads(t *testing.T) {
	for _, c := range []struct {
		in, want string
		left     int
	}{
		{"0:,", "", 0},
		{"2:hi,", "hi", 0},
		{"2:hi,,", "hi", 1},
		{"1:,,", ",", 0},
		{"6:1:a,2;,", "1:a,2;", 0},
		{"3:\x00\xff\n,x", "\x00\xff\n", 1},
		{"2:é,", "é", 0},
		{"10:1234567890,3:abc,", "1234567890", 6},
	} {
		r := cord.New([]byte(c.in))
		if got, s := r.Str(), look(r); got != c.want || s != (state{false, c.left, c.left == 0}) {
			t.Errorf("Str of %q: %q, %+v", c.in, got, s)
		}
	}
}

func TestP1_1_NoText(t *testing.T) {
	for _, in := range []string{
		"", ":", ":,", "2", "2:", "2:h", "2:hi", "0:", "0", ",",
		"2:h,", "3:hi,", "2:h,x", "1000:hi,", "2:hi;", "2:hi:", "2:hi\x00", "1:hi,", "0:;", "0:a,",
		"02:hi,", "00:,", "-0:,", "-1:,", "-2:hi,", "+2:hi,", " 2:hi,", "2 :hi,", "2;hi,", "2;2:hi,", "x2:hi,", "0x2:hi,",
		"9223372036854775807:hi,", "9223372036854775806:,", "9223372036854775805:,", "9223372036854775808:,", "-9223372036854775808:,",
		"4294967296:,", "18446744073709551616:,", "18446744073709551618:hi,", strings.Repeat("9", 1000) + ":,",
	} {
		r := cord.New([]byte(in))
		if got, s := r.Str(), look(r); got != "" || s != spoilt {
			t.Errorf("Str of %q: %q, %+v", in, got, s)
		}
	}
}

func TestP1_1_ReaderOfNoBytes(t *testing.T) {
	for _, b := range [][]byte{nil, {}, make([]byte, 0, 8)} {
		r := cord.New(b)
		for range 3 {
			if s := look(r); s != (state{false, 0, true}) {
				t.Errorf("a reader of no bytes: %+v", s)
			}
		}
	}
}

// calls are a reader's three readings; each answers whether it told nothing.
func calls() []func(r *cord.Reader) bool {
	return []func(r *cord.Reader) bool{
		func(r *cord.Reader) bool { return r.Num() == 0 },
		func(r *cord.Reader) bool { return r.Count() == 0 },
		func(r *cord.Reader) bool { return r.Str() == "" },
	}
}

// staysSpoilt: every order of three calls tells nothing, and changes nothing.
func staysSpoilt(t *testing.T, what string, made func() *cord.Reader) {
	t.Helper()
	for order := range 27 {
		r := made()
		for _, k := range []int{order % 3, order / 3 % 3, order / 9} {
			if s := look(r); s != spoilt {
				t.Fatalf("%s: %+v", what, s)
			}
			if !calls()[k](r) {
				t.Fatalf("%s: something is read", what)
			}
		}
		if s := look(r); s != spoilt {
			t.Fatalf("%s: %+v", what, s)
		}
	}
}

func TestP1_1_NilReader(t *testing.T) {
	staysSpoilt(t, "a nil reader", func() *cord.Reader { return nil })
}

func TestP1_1_BehindWhatWasNotThere(t *testing.T) {
	staysSpoilt(t, "no number, and things behind it", func() *cord.Reader {
		r := cord.New([]byte("x;5;5;5;2:hi,"))
		r.Num()
		return r
	})
	staysSpoilt(t, "a number below 0, and things behind it", func() *cord.Reader {
		r := cord.New([]byte("-1;5;5;5;2:hi,"))
		r.Count()
		return r
	})
	staysSpoilt(t, "no text, and things behind it", func() *cord.Reader {
		r := cord.New([]byte("2:hi;5;5;5;2:hi,"))
		r.Str()
		return r
	})
	staysSpoilt(t, "a text where a number is asked for", func() *cord.Reader {
		r := cord.New([]byte("2:hi,5;5;"))
		r.Num()
		return r
	})
	staysSpoilt(t, "a number where a text is asked for", func() *cord.Reader {
		r := cord.New([]byte("2;2:hi,2:hi,"))
		r.Str()
		return r
	})
	for _, call := range calls() {
		staysSpoilt(t, "behind the end", func() *cord.Reader {
			r := cord.New([]byte("5;2:hi,"))
			if r.Num() != 5 || r.Str() != "hi" || look(r) != (state{false, 0, true}) {
				t.Fatal("5 and hi aren't read")
			}
			call(r)
			return r
		})
	}
}

func TestP1_1_LookingChangesNothing(t *testing.T) {
	r := cord.New([]byte("1;2:hi,-3;"))
	for range 3 {
		if s := look(r); s != (state{false, 10, false}) {
			t.Fatalf("ahead of all: %+v", s)
		}
	}
	if r.Count() != 1 || look(r) != (state{false, 8, false}) {
		t.Error("behind 1")
	}
	if r.Str() != "hi" || look(r) != (state{false, 3, false}) {
		t.Error("behind hi")
	}
	if r.Num() != -3 || look(r) != (state{false, 0, true}) {
		t.Error("behind -3")
	}
}

// small calls f with every text of at most so many bytes of the alphabet.
func small(alphabet string, most int, f func(s string)) {
	var grow func(s string)
	grow = func(s string) {
		f(s)
		if len(s) == most {
			return
		}
		for _, c := range []byte(alphabet) {
			grow(s + string(rune(c)))
		}
	}
	grow("")
}

// numberAhead: the number whose bytes s begins with, found by trying all that can be in so few bytes.
func numberAhead(s string, all []int) (int, int, bool) {
	for _, n := range all {
		if w := fmt.Sprintf("%d;", n); strings.HasPrefix(s, w) {
			return n, len(w), true
		}
	}
	return 0, 0, false
}

// textAhead: the text whose bytes s begins with, found by trying all pieces of s.
func textAhead(s string) (string, int, bool) {
	for lo := range len(s) {
		for hi := lo; hi <= len(s); hi++ {
			if w := fmt.Sprintf("%d:%s,", hi-lo, s[lo:hi]); strings.HasPrefix(s, w) {
				return s[lo:hi], len(w), true
			}
		}
	}
	return "", 0, false
}

// TestP1_1_AllShortBytes holds every reading of short bytes against the chapter's words: what is read is what s begins with, as it is written, or nothing.
func TestP1_1_AllShortBytes(t *testing.T) {
	var all []int
	for n := -999; n <= 9999; n++ {
		all = append(all, n)
	}
	byFirst := map[byte][]int{}
	for _, n := range all {
		c := fmt.Sprint(n)[0]
		byFirst[c] = append(byFirst[c], n)
	}
	small("012-;:,", 5, func(s string) {
		n, size, ok := 0, 0, false
		if s != "" {
			n, size, ok = numberAhead(s, byFirst[s[0]])
		}
		checkNumber(t, "Num", s, (*cord.Reader).Num, n, size, ok)
		if n < 0 {
			n, size, ok = 0, 0, false
		}
		checkNumber(t, "Count", s, (*cord.Reader).Count, n, size, ok)
		text, size, ok := textAhead(s)
		r := cord.New([]byte(s))
		if got := r.Str(); got != text || look(r) != behind(s, size, ok) {
			t.Fatalf("Str of %q: %q, %+v, want %q, %v", s, got, look(r), text, ok)
		}
	})
}

// behind: the state of a reader of s behind so many bytes, or behind something that wasn't there.
func behind(s string, size int, ok bool) state {
	if !ok {
		return spoilt
	}
	return state{false, len(s) - size, len(s) == size}
}

func checkNumber(t *testing.T, name, s string, read func(*cord.Reader) int, n, size int, ok bool) {
	t.Helper()
	r := cord.New([]byte(s))
	if got := read(r); got != n || look(r) != behind(s, size, ok) {
		t.Fatalf("%s of %q: %d, %+v, want %d, %v", name, s, got, look(r), n, ok)
	}
}

// thing is a number or a text that was put; reads by Count where count.
type thing struct {
	isText bool
	count  bool
	n      int
	s      string
}

func put(b []byte, list []thing) []byte {
	for _, x := range list {
		if x.isText {
			b = cord.Str(b, x.s)
		} else {
			b = cord.Num(b, x.n)
		}
	}
	return b
}

// same: whether the reader's next is the thing.
func same(r *cord.Reader, x thing) bool {
	switch {
	case x.isText:
		return r.Str() == x.s
	case x.count:
		return r.Count() == x.n
	}
	return r.Num() == x.n
}

// edges are numbers at which digits, signs or bits run out.
func edges() []int {
	list := []int{0, 1, -1, 9, 10, -9, -10, 99, 100, math.MaxInt8, math.MinInt8, math.MaxInt32, math.MinInt32, math.MaxUint32, math.MaxInt, math.MinInt}
	for n := 1; n > 0 && n < math.MaxInt/10; n *= 10 {
		list = append(list, n-1, n, n+1, -n-1, -n, -n+1)
	}
	return list
}

func someThings(rnd *rand.Rand, most int) []thing {
	var list []thing
	for range rnd.Intn(most + 1) {
		switch rnd.Intn(3) {
		case 0:
			list = append(list, thing{isText: true, s: someText(rnd)})
		case 1:
			list = append(list, thing{n: int(rnd.Uint64()) >> rnd.Intn(64)})
		case 2:
			list = append(list, thing{count: true, n: int(rnd.Uint64()>>1) >> rnd.Intn(63)})
		}
	}
	return list
}

// someText is made of signs that could be taken for a number's or a text's own, or of any bytes.
func someText(rnd *rand.Rand) string {
	const signs = "0123456789-;:,"
	b := make([]byte, rnd.Intn(14))
	for i := range b {
		b[i] = byte(rnd.Intn(256))
		if rnd.Intn(2) == 0 {
			b[i] = signs[rnd.Intn(len(signs))]
		}
	}
	return string(b)
}

func TestP1_2_ThereAndBack(t *testing.T) {
	rnd := rand.New(rand.NewSource(1))
	lists := [][]thing{nil, {{isText: true}}, {{}}, {{isText: true}, {isText: true}}}
	for _, n := range edges() {
		lists = append(lists, []thing{{n: n}, {isText: true, s: fmt.Sprintf("%d;", n)}, {n: n}})
	}
	for range 3000 {
		lists = append(lists, someThings(rnd, 12))
	}
	for _, list := range lists {
		b := put(nil, list)
		r := cord.New(b)
		for i, x := range list {
			if r.End() || !same(r, x) || r.Bad() {
				t.Fatalf("%q: thing %d isn't read as %+v", b, i, x)
			}
			if want := len(put(nil, list[i+1:])); r.Left() != want {
				t.Fatalf("%q: %d are left behind thing %d, want %d", b, r.Left(), i, want)
			}
		}
		if look(r) != (state{false, 0, true}) {
			t.Fatalf("%q: at the end %+v", b, look(r))
		}
	}
}

func TestP1_2_ManyNumbersAtOnceThereAndBack(t *testing.T) {
	list := edges()
	r := cord.New(cord.Num(nil, list...))
	for _, n := range list {
		if got := r.Num(); got != n {
			t.Fatalf("%d is read as %d", n, got)
		}
	}
	if !r.End() {
		t.Error("that isn't all")
	}
}

func TestP1_2_LongTextThereAndBack(t *testing.T) {
	s := strings.Repeat("12;3:abc,", 1<<17)
	r := cord.New(cord.Str(cord.Num(nil, 1), s))
	if r.Count() != 1 || r.Str() != s || !r.End() {
		t.Error("a text of over a million bytes")
	}
}

func TestP1_2_OfFewerBytesSomethingIsNotThere(t *testing.T) {
	rnd := rand.New(rand.NewSource(2))
	lists := [][]thing{{{n: math.MinInt}}, {{isText: true}}, {{n: 12}, {isText: true, s: "1,2;"}, {count: true, n: 10}}}
	for range 400 {
		lists = append(lists, someThings(rnd, 6))
	}
	for _, list := range lists {
		b := put(nil, list)
		for size := range len(b) {
			r := cord.New(b[:size])
			gone := 0
			for _, x := range list {
				if !same(r, x) {
					gone++
				}
			}
			if look(r) != spoilt {
				t.Fatalf("the first %d bytes of %q: %+v, %d things aren't there", size, b, look(r), gone)
			}
		}
	}
}

// putAnew reads what comes next, by one of the three calls, and answers its bytes.
func putAnew(r *cord.Reader, call int) []byte {
	switch call {
	case 0:
		return cord.Num(nil, r.Num())
	case 1:
		return cord.Num(nil, r.Count())
	}
	return cord.Str(nil, r.Str())
}

// checkAnew: as long as something is read of s, it is, put anew, the bytes that were read.
func checkAnew(t *testing.T, s string, next func() int) {
	t.Helper()
	r := cord.New([]byte(s))
	for !r.Bad() {
		from := len(s) - r.Left()
		w := putAnew(r, next())
		if r.Bad() {
			break
		}
		if to := len(s) - r.Left(); to <= from || s[from:to] != string(w) {
			t.Fatalf("of %q the bytes %q are read, put anew %q", s, s[from:to], w)
		}
	}
}

func TestP1_3_PutAnew(t *testing.T) {
	small("019-;:,", 5, func(s string) {
		for order := range 27 {
			k := order
			checkAnew(t, s, func() int { c := k % 3; k /= 3; return c })
		}
	})
	rnd := rand.New(rand.NewSource(3))
	for range 20000 {
		b := put(nil, someThings(rnd, 5))
		if len(b) > 0 && rnd.Intn(2) == 0 {
			b[rnd.Intn(len(b))] = byte(rnd.Intn(256))
		}
		checkAnew(t, string(b), func() int { return rnd.Intn(3) })
	}
}

// roomy: bytes with spare room behind them, and the whole of it.
func roomy(s string) (b, whole []byte) {
	whole = bytes.Repeat([]byte{'#'}, len(s)+64)
	copy(whole, s)
	return whole[:len(s)], whole
}

func TestP1_4_WritersLeaveWhatTheyAreGiven(t *testing.T) {
	writers := map[string]func(b []byte) []byte{
		"Num":            func(b []byte) []byte { return cord.Num(b, 1, -2) },
		"Num of none":    func(b []byte) []byte { return cord.Num(b) },
		"Str":            func(b []byte) []byte { return cord.Str(b, "hi") },
		"Str of nothing": func(b []byte) []byte { return cord.Str(b, "") },
	}
	for name, write := range writers {
		for _, ahead := range []string{"", "abc"} {
			b, whole := roomy(ahead)
			was := string(whole)
			first, second := write(b), write(b)
			want := string(first)
			if string(whole) != was {
				t.Errorf("%s of %q: what was handed in is changed: %q", name, ahead, whole)
			}
			for i := range whole {
				whole[i] = '!'
			}
			if string(first) != want || string(second) != want {
				t.Errorf("%s of %q: the answer is kept in what was handed in", name, ahead)
			}
			second = append(second[:0], bytes.Repeat([]byte{'?'}, cap(second))...)
			if string(first) != want {
				t.Errorf("%s of %q: two answers share memory", name, ahead)
			}
			if strings.Contains(string(whole), "?") {
				t.Errorf("%s of %q: the answer is what was handed in", name, ahead)
			}
		}
	}
}

func TestP1_4_NumLeavesItsList(t *testing.T) {
	whole := []int{3, 1, -2, 77, 78}
	list := whole[:3]
	got := cord.Num(nil, list...)
	if !slices.Equal(whole, []int{3, 1, -2, 77, 78}) {
		t.Errorf("the list is changed: %v", whole)
	}
	clear(whole)
	if string(got) != "3;1;-2;" {
		t.Errorf("the list is kept: %q", got)
	}
}

func TestP1_4_ReaderKeepsNothingOfItsBytes(t *testing.T) {
	const s = "12;2:hi,-3;2:yo,"
	b, whole := roomy(s)
	was := string(whole)
	r, other := cord.New(b), cord.New(b)
	if r.Num() != 12 {
		t.Fatal("12")
	}
	hi := r.Str()
	if string(whole) != was {
		t.Errorf("reading changed what was handed in: %q", whole)
	}
	for i := range whole {
		whole[i] = '9'
	}
	if hi != "hi" || r.Num() != -3 || r.Str() != "yo" || !r.End() {
		t.Error("what the caller writes behind the call is seen")
	}
	if other.Left() != len(s) || other.Count() != 12 || other.Str() != "hi" || other.Num() != -3 || other.Str() != "yo" || !other.End() {
		t.Error("two readers of the same bytes know of one another")
	}
	if strings.Trim(string(whole), "9") != "" {
		t.Errorf("reading changed what was handed in: %q", whole)
	}
}

func TestP1_4_ABadReaderLeavesItsBytes(t *testing.T) {
	for _, call := range calls() {
		b, whole := roomy("2:hi;5;")
		was := string(whole)
		good := cord.New(b)
		bad := cord.New(b)
		call(bad)
		if string(whole) != was {
			t.Errorf("what was handed in is changed: %q", whole)
		}
		if look(bad) != spoilt || look(good) != (state{false, len(b), false}) {
			t.Errorf("%+v beside %+v", look(good), look(bad))
		}
	}
}
