package prop_test

import (
	"bytes"
	"fmt"
	"math"
	"math/big"
	"math/rand"
	"regexp"
	"slices"
	"strconv"
	"strings"
	"testing"

	"trivet/api"
	"trivet/cord"
	"trivet/prop"
)

// The exact signatures: the test isn't built if one is another.
var (
	_ func(string) bool                                  = prop.Name
	_ func(api.Value) bool                               = prop.Good
	_ func(api.Value, api.Value) int                     = prop.Compare
	_ func([]api.Prop) bool                              = prop.Valid
	_ func([]api.Prop, string) (api.Value, bool)         = prop.Get
	_ func([]api.Prop, api.Prop) ([]api.Prop, api.Errno) = prop.Set
	_ func(api.Value) (string, api.Errno)                = prop.Text
	_ func(string) (api.Value, api.Errno)                = prop.Parse
	_ func([]api.Prop) ([]byte, api.Errno)               = prop.Encode
	_ func(*cord.Reader) ([]api.Prop, api.Errno)         = prop.Read
)

// The chapter's numbers, not the program's.
const (
	kInt  = 1
	kBool = 2
	kText = 3
	kReal = 4
	nan   = uint64(0x7ff8000000000001)
	minus = uint64(1) << 63
)

func num(n int) api.Value               { return api.Value{Kind: kInt, Num: n} }
func truth(n int) api.Value             { return api.Value{Kind: kBool, Num: n} }
func text(s string) api.Value           { return api.Value{Kind: kText, Text: s} }
func float(b uint64) api.Value          { return api.Value{Kind: kReal, Real: math.Float64frombits(b)} }
func realOf(x float64) api.Value        { return float(math.Float64bits(x)) }
func of(n string, v api.Value) api.Prop { return api.Prop{Name: n, Value: v} }

// alike: whether two values are the same, bit by bit.
func alike(a, b api.Value) bool {
	x, y := math.Float64bits(a.Real), math.Float64bits(b.Real)
	a.Real, b.Real = 0, 0
	return a == b && x == y
}

func alikeProps(a, b []api.Prop) bool {
	return slices.EqualFunc(a, b, func(p, q api.Prop) bool { return p.Name == q.Name && alike(p.Value, q.Value) })
}

// The twins below tell the chapter's rules by other means than the program.

var (
	names  = regexp.MustCompile(`\A[a-z0-9_-]{1,16}\z`)
	whole  = regexp.MustCompile(`\A(0|-?[1-9][0-9]*)\z`)
	number = regexp.MustCompile(`\A(0|-?[1-9][0-9]*);`)
	length = regexp.MustCompile(`\A(0|[1-9][0-9]*):`)
)

// twinGood: what isn't the kind's own is taken away by a table of what may stand where.
func twinGood(v api.Value) bool {
	noNum, noText, noReal := v.Num == 0, v.Text == "", math.Float64bits(v.Real) == 0
	isNaN := math.Float64bits(v.Real)&^minus > uint64(0x7ff)<<52
	return v.Kind == 1 && noText && noReal ||
		v.Kind == 2 && noText && noReal && (v.Num == 0 || v.Num == 1) ||
		v.Kind == 3 && noNum && noReal && len(v.Text) <= 256 ||
		v.Kind == 4 && noNum && noText && (!isNaN || math.Float64bits(v.Real) == nan)
}

func twinText(v api.Value) (string, bool) {
	if !twinGood(v) {
		return "", false
	}
	switch v.Kind {
	case 1:
		return fmt.Sprintf("i%d", v.Num), true
	case 2:
		return fmt.Sprintf("b%d", v.Num), true
	case 3:
		return "t" + v.Text, true
	}
	return "f" + strconv.FormatFloat(v.Real, 'g', -1, 64), true
}

func twinParse(s string) (api.Value, bool) {
	switch {
	case strings.HasPrefix(s, "i") && whole.MatchString(s[1:]):
		n, _ := new(big.Int).SetString(s[1:], 10)
		return num(int(n.Int64())), n.IsInt64()
	case s == "b0" || s == "b1":
		return truth(strings.Index("01", s[1:])), true
	case strings.HasPrefix(s, "t"):
		return text(s[1:]), len(s) <= 257
	case s == "fNaN":
		return float(nan), true
	case strings.HasPrefix(s, "f"):
		x, err := strconv.ParseFloat(s[1:], 64)
		return realOf(x), err == nil && strconv.FormatFloat(x, 'g', -1, 64) == s[1:]
	}
	return api.Value{}, false
}

func twinValid(list []api.Prop) bool {
	ok := len(list) <= 16
	for i, p := range list {
		ok = ok && names.MatchString(p.Name) && twinGood(p.Value)
		for _, q := range list[i+1:] {
			ok = ok && strings.Compare(p.Name, q.Name) < 0
		}
	}
	return ok
}

func twinEncode(list []api.Prop) string {
	out := fmt.Sprintf("%d;", len(list))
	for _, p := range list {
		s, _ := twinText(p.Value)
		out += fmt.Sprintf("%d:%s,%d:%s,", len(p.Name), p.Name, len(s), s)
	}
	return out
}

// twinRead: the properties that the bytes begin with, and what is behind them.
func twinRead(s string) (list []api.Prop, rest string, ok bool) {
	m := number.FindString(s)
	n, err := strconv.Atoi(strings.TrimSuffix(m, ";"))
	if err != nil || n < 0 || n > 16 {
		return nil, "", false
	}
	s = s[len(m):]
	str := func() (string, bool) {
		m := length.FindString(s)
		n, err := strconv.Atoi(strings.TrimSuffix(m, ":"))
		if err != nil || n > len(s)-len(m)-1 || s[len(m)+n] != ',' {
			return "", false
		}
		out := s[len(m) : len(m)+n]
		s = s[len(m)+n+1:]
		return out, true
	}
	for ; n > 0; n-- {
		name, ok1 := str()
		t, ok2 := str()
		v, ok3 := twinParse(t)
		if !ok1 || !ok2 || !ok3 {
			return nil, "", false
		}
		list = append(list, of(name, v))
	}
	return list, s, twinValid(list)
}

// floats: bits at which something turns, with both signs, many NaN among them.
func floats() []uint64 {
	var all []uint64
	for _, b := range []uint64{0, 1, 2, 0x000fffffffffffff, 0x0010000000000000, 0x7fefffffffffffff, 0x7ff0000000000000,
		0x7ff0000000000001, 0x7ff8000000000000, nan, 0x7ff8000000000002, 0x7fffffffffffffff,
		math.Float64bits(0.1), math.Float64bits(1), math.Float64bits(2.5), math.Float64bits(1e21), math.Float64bits(1e-7), math.Float64bits(100000), math.Float64bits(1e6)} {
		all = append(all, b, b^minus)
	}
	return all
}

// values: values of all kinds, and of none, those that can be and those that can't.
func values() []api.Value {
	all := []api.Value{{}, {Kind: -1}, {Kind: 5}, {Kind: 0, Num: 1}, {Kind: 5, Text: "x"}, {Kind: math.MinInt}, {Kind: math.MaxInt}}
	for _, n := range []int{0, 1, -1, 2, 3, -2, 9, 10, 255, 1 << 40, math.MaxInt, math.MinInt, math.MaxInt - 1, math.MinInt + 1, 1 << 32, -1 << 32} {
		all = append(all, num(n), truth(n), api.Value{Kind: kText, Num: n}, api.Value{Kind: kReal, Num: n})
	}
	for _, s := range []string{"", "x", "y", "xy", "i5", "\x00", "\xff\xfe", "é", "a,b;c:", "t", strings.Repeat("z", 255), strings.Repeat("z", 256), strings.Repeat("z", 257), strings.Repeat("é", 128), strings.Repeat("é", 129)} {
		all = append(all, text(s), api.Value{Kind: kInt, Text: s}, api.Value{Kind: kBool, Text: s}, api.Value{Kind: kReal, Text: s}, api.Value{Kind: kText, Text: s, Num: 1})
	}
	for _, b := range floats() {
		x := math.Float64frombits(b)
		all = append(all, float(b), api.Value{Kind: kInt, Real: x}, api.Value{Kind: kBool, Real: x}, api.Value{Kind: kText, Real: x}, api.Value{Kind: kReal, Real: x, Num: 1}, api.Value{Kind: kReal, Real: x, Text: "x"}, api.Value{Real: x})
	}
	return all
}

// good: those of them that can be.
func good() []api.Value {
	return slices.DeleteFunc(values(), func(v api.Value) bool { return !twinGood(v) })
}

// some: a value that can be, by chance.
func some(r *rand.Rand) api.Value {
	switch r.Intn(5) {
	case 0:
		return num(int(r.Uint64()) >> uint(r.Intn(64)))
	case 1:
		return truth(r.Intn(2))
	case 2:
		b := make([]byte, r.Intn(1<<uint(r.Intn(9))))
		r.Read(b)
		return text(string(b))
	case 3:
		b := r.Uint64()
		if b&^minus > uint64(0x7ff)<<52 {
			b = nan
		}
		return float(b)
	}
	list := good()
	return list[r.Intn(len(list))]
}

const letters = "abcdefghijklmnopqrstuvwxyz0123456789-_"

// someName: a name; often a short one of few letters, so that it comes twice.
func someName(r *rand.Rand) string {
	b := make([]byte, 1+r.Intn(1+r.Intn(16)))
	for i := range b {
		b[i] = letters[r.Intn(1+r.Intn(len(letters)))]
	}
	return string(b)
}

// someProps: properties that can be, by rising names, at most most of them.
func someProps(r *rand.Rand, most int) []api.Prop {
	var list []api.Prop
	for range r.Intn(most + 1) {
		list = append(list, of(someName(r), some(r)))
	}
	slices.SortStableFunc(list, func(a, b api.Prop) int { return strings.Compare(a.Name, b.Name) })
	return slices.CompactFunc(list, func(a, b api.Prop) bool { return a.Name == b.Name })
}

// full: 16 properties, of the names b, d, f ..
func full() []api.Prop {
	var list []api.Prop
	for i := range 13 {
		list = append(list, of(string(rune('b'+2*i-i/12)), num(i)))
	}
	return append(list, of("zb", text("x")), of("zd", truth(1)), of("zf", realOf(2.5)))
}

func TestP7_1_NameByEachByte(t *testing.T) {
	const may = "-0123456789_abcdefghijklmnopqrstuvwxyz"
	for c := range 256 {
		b := string([]byte{byte(c)})
		want := strings.Contains(may, b)
		for _, s := range []string{b, "a" + b, b + "a", "a" + b + "a", strings.Repeat("a", 15) + b, b + strings.Repeat("a", 15), strings.Repeat(b, 16)} {
			if got := prop.Name(s); got != want {
				t.Errorf("Name %q: %v", s, got)
			}
		}
	}
}

func TestP7_1_NameByItsLength(t *testing.T) {
	for n := range 40 {
		for _, c := range []string{"a", "z", "0", "9", "-", "_"} {
			if got := prop.Name(strings.Repeat(c, n)); got != (n >= 1 && n <= 16) {
				t.Errorf("Name of %d times %s: %v", n, c, got)
			}
		}
	}
	if prop.Name(strings.Repeat("a", 1<<20)) || prop.Name(strings.Repeat("a", 256+1)) {
		t.Error("Name of many bytes")
	}
	// Bytes are counted, and looked at, not runes.
	for _, s := range []string{"é", "aé", "\xff", "ａ", " ", "a b", "a.b", "A", "aZ", "a\n", "\na", "a\x00"} {
		if prop.Name(s) {
			t.Errorf("Name %q", s)
		}
	}
}

func TestP7_1_GoodByEachKind(t *testing.T) {
	for _, c := range []struct {
		v    api.Value
		want bool
	}{
		{api.Value{}, false},
		{api.Value{Kind: 1}, true},
		{api.Value{Kind: 2}, true},
		{api.Value{Kind: 3}, true},
		{api.Value{Kind: 4}, true},
		{api.Value{Kind: 5}, false},
		{api.Value{Kind: -1}, false},
		{api.Value{Kind: 1 + 1<<32}, false},
		{num(math.MaxInt), true},
		{num(math.MinInt), true},
		{truth(1), true},
		{truth(2), false},
		{truth(3), false},
		{truth(-1), false},
		{truth(math.MinInt), false},
		{text(strings.Repeat("x", 256)), true},
		{text(strings.Repeat("x", 257)), false},
		{text(strings.Repeat("é", 128)), true},
		{text(strings.Repeat("é", 129)), false},
		{text("\x00\xff\n"), true},
		{float(minus), true},
		{realOf(math.Inf(1)), true},
		{realOf(math.Inf(-1)), true},
		{realOf(5e-324), true},
		{float(nan), true},
		{float(nan | minus), false},
		{float(nan - 1), false},
		{float(nan + 1), false},
		{float(0x7ff0000000000001), false},
		{float(0xffffffffffffffff), false},
		{api.Value{Kind: 1, Num: 5, Text: "x"}, false},
		{api.Value{Kind: 1, Num: 5, Real: 1}, false},
		{api.Value{Kind: 1, Num: 5, Real: math.Copysign(0, -1)}, false},
		{api.Value{Kind: 1, Real: math.NaN()}, false},
		{api.Value{Kind: 2, Num: 1, Text: "x"}, false},
		{api.Value{Kind: 2, Real: math.Copysign(0, -1)}, false},
		{api.Value{Kind: 2, Real: math.NaN()}, false},
		{api.Value{Kind: 2, Real: 5e-324}, false},
		{api.Value{Kind: 3, Text: "x", Num: 1}, false},
		{api.Value{Kind: 3, Text: "x", Num: -1}, false},
		{api.Value{Kind: 3, Text: "x", Real: math.Copysign(0, -1)}, false},
		{api.Value{Kind: 3, Text: "x", Real: math.NaN()}, false},
		{api.Value{Kind: 4, Real: 1, Num: 1}, false},
		{api.Value{Kind: 4, Real: 1, Text: "x"}, false},
		{api.Value{Kind: 4, Real: math.Float64frombits(nan), Num: 1}, false},
	} {
		if got := prop.Good(c.v); got != c.want {
			t.Errorf("Good %+v (%016x): %v", c.v, math.Float64bits(c.v.Real), got)
		}
	}
}

func TestP7_1_GoodAsItsTwin(t *testing.T) {
	for _, v := range values() {
		if got := prop.Good(v); got != twinGood(v) {
			t.Errorf("Good %+v (%016x): %v", v, math.Float64bits(v.Real), got)
		}
	}
	for n := -5; n < 300; n++ {
		if got := prop.Good(truth(n)); got != (n == 0 || n == 1) {
			t.Errorf("Good of a truth of %d: %v", n, got)
		}
		if got := prop.Good(api.Value{Kind: n}); got != (n >= 1 && n <= 4) {
			t.Errorf("Good of kind %d: %v", n, got)
		}
		if n >= 0 {
			if got := prop.Good(text(strings.Repeat("\xc3", n))); got != (n <= 256) {
				t.Errorf("Good of %d bytes: %v", n, got)
			}
		}
	}
	r := rand.New(rand.NewSource(1))
	for range 20000 {
		v := some(r)
		if !prop.Good(v) {
			t.Fatalf("Good %+v: false", v)
		}
		switch r.Intn(4) {
		case 0:
			v.Kind = r.Intn(8) - 2
		case 1:
			v.Num = r.Intn(5) - 2
		case 2:
			v.Text = strings.Repeat("x", r.Intn(300))
		case 3:
			v.Real = math.Float64frombits(floats()[r.Intn(len(floats()))])
		}
		if got := prop.Good(v); got != twinGood(v) {
			t.Fatalf("Good %+v (%016x): %v", v, math.Float64bits(v.Real), got)
		}
	}
}

// rising: values, each later than the one ahead of it.
var rising = []api.Value{
	{Kind: math.MinInt, Num: 9},
	{Kind: -1, Num: 5, Text: "z", Real: 3},
	{Kind: 0, Num: -1, Text: "z"},
	{},
	num(math.MinInt),
	num(-10),
	num(-9),
	num(-1),
	{Kind: kInt, Real: math.Inf(-1)},
	{Kind: kInt, Real: math.Copysign(0, -1)},
	num(0),
	{Kind: kInt, Text: "a"},
	{Kind: kInt, Text: "a", Real: 1},
	num(1),
	num(9),
	num(10),
	num(1 << 40),
	num(math.MaxInt),
	truth(-1),
	truth(0),
	truth(1),
	truth(2),
	{Kind: kText, Num: -1, Text: "z"},
	text(""),
	text("\x00"),
	text("A"),
	text("B"),
	text("a"),
	text("a\x00"),
	text("aa"),
	text("b"),
	text("z"),
	text("é"),
	text("\xff"),
	{Kind: kText, Num: 1},
	{Kind: kReal, Num: -1, Real: 7},
	realOf(math.Inf(-1)),
	realOf(-math.MaxFloat64),
	realOf(-1),
	float(minus | 1),
	float(minus),
	float(0),
	float(1),
	realOf(1),
	realOf(math.MaxFloat64),
	realOf(math.Inf(1)),
	float(nan),
	{Kind: kReal, Text: "a", Real: math.Inf(-1)},
	{Kind: kReal, Num: 1, Real: math.Inf(-1)},
	{Kind: 5},
	{Kind: math.MaxInt},
}

func TestP7_1_CompareByKindNumTextReal(t *testing.T) {
	for i, a := range rising {
		for j, b := range rising {
			want := 0
			if i < j {
				want = -1
			}
			if i > j {
				want = 1
			}
			if got := prop.Compare(a, b); got != want {
				t.Errorf("Compare %+v %+v: %d, want %d", a, b, got, want)
			}
		}
	}
	// Of values that can't be, too: two NaN stand at one place in layer 6's order.
	for _, b := range []uint64{nan | minus, nan - 1, nan + 1, 0x7ff0000000000001, 0xffffffffffffffff} {
		if got := prop.Compare(float(nan), float(b)); got != 0 {
			t.Errorf("Compare of two NaN: %d", got)
		}
		if got := prop.Compare(float(b), realOf(math.Inf(1))); got != 1 {
			t.Errorf("Compare of a NaN and +Inf: %d", got)
		}
	}
}

// key: a text that stands for a value's place: byte by byte, its order is that of values.
func key(v api.Value) string {
	b := math.Float64bits(v.Real)
	if b&^minus > uint64(0x7ff)<<52 {
		b = nan
	}
	if b&minus != 0 {
		b = ^b
	} else {
		b |= minus
	}
	// A text's bytes are spread, so that its end is less than any of them.
	return fmt.Sprintf("%016x %016x %s  %016x", uint64(v.Kind)^minus, uint64(v.Num)^minus, fmt.Sprintf("% x", v.Text), b)
}

func TestP7_3_CompareIsOneOrder(t *testing.T) {
	all := append(values(), rising...)
	r := rand.New(rand.NewSource(2))
	for range 300 {
		all = append(all, some(r))
	}
	keys := make([]string, len(all))
	for i, v := range all {
		keys[i] = key(v)
	}
	for i, a := range all {
		for j, b := range all {
			if got, want := prop.Compare(a, b), strings.Compare(keys[i], keys[j]); got != want {
				t.Fatalf("Compare %+v %+v: %d, want %d", a, b, got, want)
			}
		}
	}
}

func TestP7_3_OnePlaceJustIfTheSame(t *testing.T) {
	all := good()
	r := rand.New(rand.NewSource(3))
	for range 400 {
		all = append(all, some(r))
	}
	for _, a := range all {
		for _, b := range all {
			got, back := prop.Compare(a, b), prop.Compare(b, a)
			if (got == 0) != alike(a, b) || got != -back || got < -1 || got > 1 {
				t.Fatalf("Compare %+v %+v: %d, %d", a, b, got, back)
			}
		}
	}
	slices.SortFunc(all, prop.Compare)
	for i := range all {
		for j := range i {
			if prop.Compare(all[j], all[i]) > 0 {
				t.Fatalf("%+v stands behind %+v", all[j], all[i])
			}
		}
	}
}

func TestP7_1_Valid(t *testing.T) {
	sixteen := full()
	if len(sixteen) != 16 {
		t.Fatal("not 16")
	}
	swapped := slices.Clone(sixteen)
	swapped[14], swapped[15] = swapped[15], swapped[14]
	for _, c := range []struct {
		what string
		list []api.Prop
		want bool
	}{
		{"nil", nil, true},
		{"none", []api.Prop{}, true},
		{"one", []api.Prop{of("a", num(7))}, true},
		{"two", []api.Prop{of("a", num(7)), of("b", text(""))}, true},
		{"of one name twice", []api.Prop{of("a", num(7)), of("a", num(7))}, false},
		{"of one name twice, otherwise", []api.Prop{of("a", num(7)), of("a", num(8))}, false},
		{"of one name twice, one between", []api.Prop{of("a", num(7)), of("b", num(7)), of("a", num(8))}, false},
		{"falling", []api.Prop{of("b", num(7)), of("a", num(7))}, false},
		{"falling at the end", swapped, false},
		{"by bytes: - 0 _ a", []api.Prop{of("-", num(1)), of("0", num(1)), of("_", num(1)), of("a", num(1)), of("a-", num(1)), of("a0", num(1)), of("aa", num(1))}, true},
		{"by length, not by bytes", []api.Prop{of("b", num(1)), of("aa", num(1))}, false},
		{"no name", []api.Prop{of("", num(7))}, false},
		{"no name, then one", []api.Prop{of("", num(7)), of("a", num(7))}, false},
		{"a great letter", []api.Prop{of("A", num(7))}, false},
		{"16 bytes", []api.Prop{of(strings.Repeat("a", 16), num(7))}, true},
		{"17 bytes", []api.Prop{of(strings.Repeat("a", 17), num(7))}, false},
		{"a wrong name at the end", []api.Prop{of("a", num(7)), of("b", num(7)), of("{", num(7))}, false},
		{"no value", []api.Prop{of("a", api.Value{})}, false},
		{"no value at the end", []api.Prop{of("a", num(1)), of("b", truth(2))}, false},
		{"no value at the beginning", []api.Prop{of("a", text(strings.Repeat("x", 257))), of("b", truth(1))}, false},
		{"another NaN", []api.Prop{of("a", float(nan+1))}, false},
		{"16", sixteen, true},
		{"17", append(slices.Clone(sixteen), of("zz", num(1))), false},
		{"17, ahead", append([]api.Prop{of("a", num(1))}, sixteen...), false},
		{"15", sixteen[1:], true},
	} {
		if got := prop.Valid(c.list); got != c.want || got != twinValid(c.list) {
			t.Errorf("Valid, %s: %v", c.what, got)
		}
	}
}

// broken: the properties with one thing in them that may be wrong.
func broken(r *rand.Rand, list []api.Prop) []api.Prop {
	list = slices.Clone(list)
	if len(list) == 0 {
		return []api.Prop{{}}
	}
	i, j := r.Intn(len(list)), r.Intn(len(list))
	switch r.Intn(6) {
	case 0:
		list[i], list[j] = list[j], list[i]
	case 1:
		list[i].Name = list[j].Name
	case 2:
		list[i].Name += string([]byte{byte(r.Intn(256))})
	case 3:
		all := values()
		list[i].Value = all[r.Intn(len(all))]
	case 4:
		list = slices.Insert(list, i, list[j])
	case 5:
		list[i].Name = ""
	}
	return list
}

func TestP7_1_ValidAsItsTwin(t *testing.T) {
	r := rand.New(rand.NewSource(4))
	seen := map[bool]int{}
	for range 20000 {
		list := someProps(r, 20)
		if got := prop.Valid(list); got != (len(list) <= 16) {
			t.Fatalf("Valid %+v: %v", list, got)
		}
		list = broken(r, list)
		got := prop.Valid(list)
		if got != twinValid(list) {
			t.Fatalf("Valid %+v: %v", list, got)
		}
		seen[got]++
	}
	if seen[true] < 100 || seen[false] < 100 {
		t.Errorf("not both: %v", seen)
	}
}

func TestP7_1_GetTheFirstOfTheName(t *testing.T) {
	list := []api.Prop{of("b", num(1)), of("a", text("x")), of("b", num(2)), of("", truth(1)), of("NO name", api.Value{Kind: 9, Num: 9, Text: "z", Real: 1}), of("c", float(minus))}
	for _, c := range []struct {
		name string
		want api.Value
		is   bool
	}{
		{"b", num(1), true},
		{"a", text("x"), true},
		{"", truth(1), true},
		{"NO name", api.Value{Kind: 9, Num: 9, Text: "z", Real: 1}, true},
		{"c", float(minus), true},
		{"d", api.Value{}, false},
		{"B", api.Value{}, false},
		{"b ", api.Value{}, false},
		{"bb", api.Value{}, false},
	} {
		if v, is := prop.Get(list, c.name); is != c.is || !alike(v, c.want) {
			t.Errorf("Get %q: %+v, %v", c.name, v, is)
		}
	}
	for _, none := range [][]api.Prop{nil, {}, {of("a", num(1))}} {
		for _, name := range []string{"", "b"} {
			if v, is := prop.Get(none, name); is || !alike(v, api.Value{}) {
				t.Errorf("Get %q of %v: %+v, %v", name, none, v, is)
			}
		}
	}
	// Of lists that can't be, too: many, one of them at the very end.
	many := slices.Repeat([]api.Prop{of("x", num(1))}, 1000)
	many = append(many, of("y", num(2)))
	if v, is := prop.Get(many, "y"); !is || v.Num != 2 {
		t.Errorf("Get of many: %+v, %v", v, is)
	}
	for i, p := range full() {
		if v, is := prop.Get(full(), p.Name); !is || !alike(v, p.Value) {
			t.Errorf("Get of 16, number %d: %+v, %v", i, v, is)
		}
	}
}

func TestP7_1_SetInItsPlace(t *testing.T) {
	b, d, f := of("b", num(1)), of("d", text("x")), of("f", float(minus))
	for _, c := range []struct {
		what string
		list []api.Prop
		p    api.Prop
		want []api.Prop
	}{
		{"into nil", nil, b, []api.Prop{b}},
		{"into none", []api.Prop{}, b, []api.Prop{b}},
		{"ahead", []api.Prop{b, d}, of("a", truth(1)), []api.Prop{of("a", truth(1)), b, d}},
		{"between", []api.Prop{b, d}, of("c", truth(1)), []api.Prop{b, of("c", truth(1)), d}},
		{"between, longer", []api.Prop{b, d}, of("bb", truth(1)), []api.Prop{b, of("bb", truth(1)), d}},
		{"behind", []api.Prop{b, d}, of("e", truth(1)), []api.Prop{b, d, of("e", truth(1))}},
		{"behind, longer", []api.Prop{b, d}, of("d-", truth(1)), []api.Prop{b, d, of("d-", truth(1))}},
		{"in the place of the first", []api.Prop{b, d, f}, of("b", truth(1)), []api.Prop{of("b", truth(1)), d, f}},
		{"in the place of the second", []api.Prop{b, d, f}, of("d", float(nan)), []api.Prop{b, of("d", float(nan)), f}},
		{"in the place of the last", []api.Prop{b, d, f}, of("f", float(0)), []api.Prop{b, d, of("f", float(0))}},
		{"in the place of the one", []api.Prop{b}, of("b", num(2)), []api.Prop{of("b", num(2))}},
		{"the same", []api.Prop{b, d, f}, d, []api.Prop{b, d, f}},
	} {
		got, err := prop.Set(c.list, c.p)
		if err != api.OK || !alikeProps(got, c.want) {
			t.Errorf("Set %s: %+v, %d", c.what, got, err)
		}
	}
}

func TestP7_1_SetIntoAFullList(t *testing.T) {
	list := full()
	for i, p := range list {
		got, err := prop.Set(list, of(p.Name, text("new")))
		want := slices.Clone(list)
		want[i].Value = text("new")
		if err != api.OK || !alikeProps(got, want) {
			t.Errorf("Set of %s into a full list: %+v, %d", p.Name, got, err)
		}
		for _, name := range []string{p.Name + "-", p.Name + "0", "a", "0", "-", "zz", "zzz"} {
			if got, err := prop.Set(list, of(name, num(1))); err != api.ErrRoom || len(got) != 0 {
				t.Errorf("Set of %s into a full list: %+v, %d", name, got, err)
			}
		}
	}
	got, err := prop.Set(list[:15], of("zz", num(1)))
	if err != api.OK || len(got) != 16 {
		t.Errorf("Set of the 16th: %+v, %d", got, err)
	}
}

func TestP7_1_SetOfWhatCannotBe(t *testing.T) {
	list := full()
	seventeen := append(slices.Clone(list), of("zz", num(1)))
	for _, c := range []struct {
		what string
		list []api.Prop
		p    api.Prop
	}{
		{"no name", nil, of("", num(1))},
		{"a great letter", nil, of("A", num(1))},
		{"17 bytes", nil, of(strings.Repeat("a", 17), num(1))},
		{"no value", nil, of("a", api.Value{})},
		{"a truth of 2", nil, of("a", truth(2))},
		{"257 bytes", nil, of("a", text(strings.Repeat("x", 257)))},
		{"another NaN", nil, of("a", float(nan-1))},
		{"no name, no room", list, of("", num(1))},
		{"no value, no room", list, of("a", truth(2))},
		{"no value, in a place", list, of("b", truth(2))},
		{"17, and one more", seventeen, of("zzz", num(1))},
		{"17, in a place", seventeen, of("b", num(1))},
		{"falling", []api.Prop{of("b", num(1)), of("a", num(1))}, of("c", num(1))},
		{"twice", []api.Prop{of("b", num(1)), of("b", num(2))}, of("b", num(3))},
		{"a wrong name in the list", []api.Prop{of("", num(1))}, of("c", num(1))},
		{"a wrong value in the list", []api.Prop{of("b", num(1)), of("c", truth(-1))}, of("a", num(1))},
		{"a wrong value in the place", []api.Prop{of("b", num(1)), of("c", truth(-1))}, of("c", truth(1))},
	} {
		if got, err := prop.Set(c.list, c.p); err != api.ErrMsg || len(got) != 0 {
			t.Errorf("Set, %s: %+v, %d", c.what, got, err)
		}
	}
}

func TestP7_4_BehindASetAllHaveTheirs(t *testing.T) {
	r := rand.New(rand.NewSource(5))
	for range 300 {
		var list []api.Prop
		held := map[string]api.Value{}
		for range 60 {
			p := of(someName(r), some(r))
			_, there := held[p.Name]
			got, err := prop.Set(list, p)
			if !there && len(held) == 16 {
				if err != api.ErrRoom || len(got) != 0 {
					t.Fatalf("Set into 16: %+v, %d", got, err)
				}
				continue
			}
			held[p.Name] = p.Value
			if err != api.OK || len(got) != len(held) || !prop.Valid(got) || !twinValid(got) {
				t.Fatalf("Set %+v into %+v: %+v, %d", p, list, got, err)
			}
			for name, v := range held {
				if had, is := prop.Get(got, name); !is || !alike(had, v) {
					t.Fatalf("behind Set of %s: %s has %+v, %v, not %+v", p.Name, name, had, is, v)
				}
			}
			list = got
		}
	}
}

func TestP7_1_SetAsItsTwin(t *testing.T) {
	r := rand.New(rand.NewSource(6))
	seen := map[api.Errno]int{}
	for range 20000 {
		list := someProps(r, 24)
		if r.Intn(5) == 0 {
			list = broken(r, list)
		}
		p := of(someName(r), some(r))
		if r.Intn(5) == 0 {
			p = broken(r, []api.Prop{p})[0]
		}
		if len(list) > 0 && r.Intn(3) == 0 {
			p.Name = list[r.Intn(len(list))].Name
		}
		var want []api.Prop
		for _, q := range list {
			if q.Name != p.Name {
				want = append(want, q)
			}
		}
		want = append(want, p)
		slices.SortStableFunc(want, func(a, b api.Prop) int { return strings.Compare(a.Name, b.Name) })
		code := api.OK
		if len(want) > 16 {
			code, want = api.ErrRoom, nil
		}
		if !twinValid(list) || !twinValid([]api.Prop{p}) {
			code, want = api.ErrMsg, nil
		}
		got, err := prop.Set(list, p)
		if err != code || !alikeProps(got, want) {
			t.Fatalf("Set %+v into %+v: %+v, %d", p, list, got, err)
		}
		seen[err]++
	}
	if seen[api.OK] < 100 || seen[api.ErrMsg] < 100 || seen[api.ErrRoom] < 100 {
		t.Errorf("not all: %v", seen)
	}
}

// told: values and their texts, written out by hand.
var told = []struct {
	v    api.Value
	text string
}{
	{num(0), "i0"},
	{num(-5), "i-5"},
	{num(7), "i7"},
	{num(10), "i10"},
	{num(-1), "i-1"},
	{num(1 << 40), "i1099511627776"},
	{num(math.MaxInt), "i9223372036854775807"},
	{num(math.MinInt), "i-9223372036854775808"},
	{truth(1), "b1"},
	{truth(0), "b0"},
	{text(""), "t"},
	{text("x"), "tx"},
	{text("t"), "tt"},
	{text("i5"), "ti5"},
	{text("05"), "t05"},
	{text(" \n\x00\xff,;:"), "t \n\x00\xff,;:"},
	{text("é"), "té"},
	{text(strings.Repeat("z", 256)), "t" + strings.Repeat("z", 256)},
	{float(minus), "f-0"},
	{float(0), "f0"},
	{realOf(1), "f1"},
	{realOf(-1), "f-1"},
	{realOf(0.1), "f0.1"},
	{realOf(2.5), "f2.5"},
	{realOf(1e21), "f1e+21"},
	{realOf(1e20), "f1e+20"},
	{realOf(1e-7), "f1e-07"},
	{realOf(100000), "f100000"},
	{realOf(1e6), "f1e+06"},
	{float(1), "f5e-324"},
	{realOf(math.MaxFloat64), "f1.7976931348623157e+308"},
	{realOf(math.Inf(1)), "f+Inf"},
	{realOf(math.Inf(-1)), "f-Inf"},
	{float(nan), "fNaN"},
}

func TestP7_1_TextAndParseOfEachKind(t *testing.T) {
	for _, c := range told {
		if got, err := prop.Text(c.v); err != api.OK || got != c.text {
			t.Errorf("Text %+v: %q, %d, want %q", c.v, got, err, c.text)
		}
		if got, err := prop.Parse(c.text); err != api.OK || !alike(got, c.v) {
			t.Errorf("Parse %q: %+v, %d, want %+v", c.text, got, err, c.v)
		}
	}
}

func TestP7_1_TextOfWhatCannotBe(t *testing.T) {
	for _, v := range values() {
		want, ok := twinText(v)
		code := api.ErrMsg
		if ok {
			code = api.OK
		}
		if got, err := prop.Text(v); err != code || got != want {
			t.Errorf("Text %+v (%016x): %q, %d", v, math.Float64bits(v.Real), got, err)
		}
	}
}

// untold: texts that are no value's.
var untold = []string{
	"", "x", "i", "b", "f", "I5", "B1", "T", "F1", "5", "-5", "1", "yes", "btrue", "\x00", "\xff", " ", "é",
	"i05", "i+5", "i-0", "i00", "i-05", "i+0", "i-", "i+", "i--5", "i5 ", "i 5", " i5", "i5\n", "i5.0", "i1e3", "i0x5", "i1_000", "i5i", "ii5", "i٥",
	"i9223372036854775808", "i-9223372036854775809", "i18446744073709551615", "i18446744073709551621", "i99999999999999999999999", "i-99999999999999999999999",
	"b2", "b-1", "b01", "b00", "b+1", "b-0", "b10", "b11", "b1 ", " b1", "b 1", "bb", "bt", "b9223372036854775808", "b1.0",
	"f1.0", "f+1", "f01", "f1.", "f.5", "f0.10", "f-0.0", "f00", "f+0", "f1e21", "f1E+21", "f1e+021", "f1e-7", "f1000000", "f1e5", "f100000.0", "f0x1p0", "f1_0",
	"fnan", "fNAN", "f+NaN", "f-NaN", "finf", "fInf", "f+inf", "fInfinity", "f+Infinity", "f1e400", "f-1e400", "f1e-400", "f5e-325", "f4e-324", "f1 ", "f 1", "f-", "f+", "fe", "f0.10000000000000001", "ff1",
	"t" + strings.Repeat("z", 257), "t" + strings.Repeat("z", 258), "t" + strings.Repeat("z", 1<<16), "t" + strings.Repeat("é", 129),
}

func TestP7_1_ParseOfNoValuesText(t *testing.T) {
	for _, s := range untold {
		if got, err := prop.Parse(s); err != api.ErrForm || !alike(got, api.Value{}) {
			t.Errorf("Parse %q: %+v, %d", s, got, err)
		}
	}
	for c := range 256 {
		s := string([]byte{byte(c)})
		_, err := prop.Parse(s)
		if (err == api.OK) != (s == "t") || s != "t" && err != api.ErrForm {
			t.Errorf("Parse %q: %d", s, err)
		}
		_, err = prop.Parse(s + "1")
		if (err == api.OK) != strings.Contains("ibtf", s) {
			t.Errorf("Parse %q: %d", s+"1", err)
		}
	}
	for _, mark := range []string{"i", "b", "f"} {
		if got, err := prop.Parse(mark + strings.Repeat("1", 1<<20)); err != api.ErrForm || !alike(got, api.Value{}) {
			t.Errorf("Parse of very many digits behind %s: %+v, %d", mark, got, err)
		}
	}
}

func TestP7_1_ParseAsItsTwin(t *testing.T) {
	const pool = "ibtf0123456789-+.eEINanfx _\x00"
	seen := map[bool]int{}
	check := func(s string) {
		t.Helper()
		want, ok := twinParse(s)
		got, err := prop.Parse(s)
		if ok && (err != api.OK || !alike(got, want)) || !ok && (err != api.ErrForm || !alike(got, api.Value{})) {
			t.Fatalf("Parse %q: %+v, %d; twin %+v, %v", s, got, err, want, ok)
		}
		seen[ok]++
	}
	for i := range pool {
		for j := range pool {
			check(pool[i:i+1] + pool[j:j+1])
			for k := range pool {
				check(pool[i:i+1] + pool[j:j+1] + pool[k:k+1])
				check("f" + pool[i:i+1] + pool[j:j+1] + pool[k:k+1])
			}
		}
	}
	r := rand.New(rand.NewSource(7))
	for range 20000 {
		s, _ := twinText(some(r))
		b := []byte(s)
		check(s)
		switch i := r.Intn(len(b)); r.Intn(3) {
		case 0:
			b[i] = pool[r.Intn(len(pool))]
		case 1:
			b = slices.Delete(b, i, i+1)
		case 2:
			b = slices.Insert(b, i, pool[r.Intn(len(pool))])
		}
		check(string(b))
	}
	if seen[true] < 1000 || seen[false] < 1000 {
		t.Errorf("not both: %v", seen)
	}
}

func TestP7_2_ParseOfTextAndTextOfParse(t *testing.T) {
	all := good()
	r := rand.New(rand.NewSource(8))
	for range 20000 {
		all = append(all, some(r))
	}
	for _, v := range all {
		s, err := prop.Text(v)
		if err != api.OK {
			t.Fatalf("Text %+v: %d", v, err)
		}
		back, err := prop.Parse(s)
		if err != api.OK || !alike(back, v) {
			t.Fatalf("Parse of Text %q: %+v, %d", s, back, err)
		}
		// And of texts near it, of which some are another value's.
		b := []byte(s)
		b[r.Intn(len(b))] = letters[r.Intn(len(letters))]
		if near, err := prop.Parse(string(b)); err == api.OK {
			if again, err := prop.Text(near); err != api.OK || again != string(b) {
				t.Fatalf("Text of Parse %q: %q, %d", b, again, err)
			}
		}
	}
}

// laid: properties and their bytes, written out by hand.
var laid = []struct {
	list  []api.Prop
	bytes string
}{
	{nil, "0;"},
	{[]api.Prop{of("a", num(7))}, "1;1:a,2:i7,"},
	{[]api.Prop{of("a", num(7)), of("b", float(minus))}, "2;1:a,2:i7,1:b,3:f-0,"},
	{[]api.Prop{of("-", truth(0)), of("_", truth(1)), of("x-y_0", text(""))}, "3;1:-,2:b0,1:_,2:b1,5:x-y_0,1:t,"},
	{[]api.Prop{of("abcdefghijklmnop", text("3:x,;"))}, "1;16:abcdefghijklmnop,6:t3:x,;,"},
	{[]api.Prop{of("t", text(strings.Repeat("z", 256)))}, "1;1:t,257:t" + strings.Repeat("z", 256) + ","},
	{[]api.Prop{of("n", float(nan)), of("z", num(math.MinInt))}, "2;1:n,4:fNaN,1:z,21:i-9223372036854775808,"},
	{full(), "16;1:b,2:i0,1:d,2:i1,1:f,2:i2,1:h,2:i3,1:j,2:i4,1:l,2:i5,1:n,2:i6,1:p,2:i7,1:r,2:i8,1:t,2:i9,1:v,3:i10,1:x,3:i11,1:y,3:i12,2:zb,2:tx,2:zd,2:b1,2:zf,4:f2.5,"},
}

func TestP7_1_EncodeAndRead(t *testing.T) {
	for _, c := range laid {
		b, err := prop.Encode(c.list)
		if err != api.OK || string(b) != c.bytes {
			t.Errorf("Encode %+v: %q, %d, want %q", c.list, b, err, c.bytes)
		}
		r := cord.New([]byte(c.bytes))
		got, err := prop.Read(r)
		if err != api.OK || !alikeProps(got, c.list) || !r.End() {
			t.Errorf("Read %q: %+v, %d", c.bytes, got, err)
		}
	}
	if b, err := prop.Encode([]api.Prop{}); err != api.OK || string(b) != "0;" {
		t.Errorf("Encode of none: %q, %d", b, err)
	}
}

func TestP7_1_EncodeOfWhatCannotBe(t *testing.T) {
	for _, list := range [][]api.Prop{
		{{}},
		{of("", num(1))},
		{of("A", num(1))},
		{of(strings.Repeat("a", 17), num(1))},
		{of("a", api.Value{})},
		{of("a", truth(2))},
		{of("a", float(nan|minus))},
		{of("a", text(strings.Repeat("x", 257)))},
		{of("a", num(1)), of("a", num(1))},
		{of("b", num(1)), of("a", num(1))},
		{of("a", num(1)), of("b", api.Value{Kind: 1, Text: "x"})},
		append(full(), of("zz", num(1))),
	} {
		if b, err := prop.Encode(list); err != api.ErrMsg || len(b) != 0 {
			t.Errorf("Encode %+v: %q, %d", list, b, err)
		}
	}
	r := rand.New(rand.NewSource(9))
	for range 10000 {
		list := broken(r, someProps(r, 18))
		b, err := prop.Encode(list)
		if twinValid(list) && (err != api.OK || string(b) != twinEncode(list)) || !twinValid(list) && (err != api.ErrMsg || len(b) != 0) {
			t.Fatalf("Encode %+v: %q, %d", list, b, err)
		}
	}
}

// unlaid: bytes that are no properties'.
var unlaid = []string{
	"", "0", ";", "-1;", "-0;", "00;", "+0;", "x", "0:,", "1:a,",
	"1;", "1;1:a,", "1;1:a,2:i7", "1;1:a,2:i", "1;1:a", "1;1:", "1;1",
	"2;1:a,2:i7,", "2;1:a,2:i7,1:b,", "3;1:a,2:i7,1:b,2:i7,",
	"17;", "18446744073709551616;", "9223372036854775807;1:a,2:i7,", "1000000000;1:a,2:i7,", "01;1:a,2:i7,", "+1;1:a,2:i7,",
	"1;01:a,2:i7,", "1;1:a;2:i7,", "1;1:a,02:i7,", "1;1:a,2:i7;", "1:1:a,2:i7,", "1;1;2:i7,",
	"1;0:,2:i7,", "1;1:A,2:i7,", "1;17:abcdefghijklmnopq,2:i7,", "1;1:.,2:i7,", "1;2:é,2:i7,",
	"2;1:a,2:i7,1:a,2:i7,", "2;1:a,2:i7,1:a,2:i8,", "2;1:b,2:i7,1:a,2:i7,", "3;1:a,2:i7,1:c,2:i7,1:b,2:i7,", "2;1:b,2:i7,2:aa,2:i7,",
	"1;1:a,0:,", "1;1:a,1:i,", "1;1:a,3:i07,", "1;1:a,3:i-0,", "1;1:a,3:i+7,", "1;1:a,2:b2,", "1;1:a,1:b,", "1;1:a,4:f1.0,", "1;1:a,4:fnan,", "1;1:a,1:x,", "1;1:a,1:7,", "1;1:a,20:i9223372036854775808,",
	"1;1:a,258:t" + strings.Repeat("z", 257) + ",",
	"2;1:a,2:i7,1:b,2:b2,", "2;1:a,2:b2,1:b,2:i7,",
}

func TestP7_1_ReadOfNoPropertiesBytes(t *testing.T) {
	seventeen := "17;"
	for i := range 17 {
		seventeen += fmt.Sprintf("1:%c,2:i7,", 'a'+i)
	}
	for _, s := range append(unlaid, seventeen) {
		if got, err := prop.Read(cord.New([]byte(s))); err != api.ErrForm || len(got) != 0 {
			t.Errorf("Read %q: %+v, %d", s, got, err)
		}
	}
	if got, err := prop.Read(nil); err != api.ErrForm || len(got) != 0 {
		t.Errorf("Read of a nil reader: %+v, %d", got, err)
	}
	for _, s := range []string{"x", "0;", "1;1:a,2:i7,"} {
		bad := cord.New([]byte(s))
		bad.Str()
		if !bad.Bad() {
			t.Fatalf("not bad: %q", s)
		}
		if got, err := prop.Read(bad); err != api.ErrForm || len(got) != 0 {
			t.Errorf("Read of a bad reader: %+v, %d", got, err)
		}
	}
	empty := cord.New([]byte("5;"))
	empty.Num()
	if got, err := prop.Read(empty); err != api.ErrForm || len(got) != 0 {
		t.Errorf("Read of a reader at its end: %+v, %d", got, err)
	}
}

func TestP7_1_ReadLeavesWhatIsBehind(t *testing.T) {
	r := cord.New([]byte("5;2:hi,2;1:a,2:i7,1:b,2:b1,0;1;1:z,1:t,-9;x"))
	if n, s := r.Num(), r.Str(); n != 5 || s != "hi" {
		t.Fatal(n, s)
	}
	for _, want := range [][]api.Prop{{of("a", num(7)), of("b", truth(1))}, nil, {of("z", text(""))}} {
		if got, err := prop.Read(r); err != api.OK || !alikeProps(got, want) {
			t.Errorf("Read: %+v, %d", got, err)
		}
	}
	if n := r.Num(); n != -9 || r.Bad() || r.Left() != 1 {
		t.Errorf("behind them: %d, %d left", n, r.Left())
	}
}

func TestP7_2_ReadOfEncodeAndEncodeOfRead(t *testing.T) {
	rnd := rand.New(rand.NewSource(10))
	seen := map[bool]int{}
	for range 20000 {
		list := someProps(rnd, 16)
		b, err := prop.Encode(list)
		if err != api.OK || string(b) != twinEncode(list) {
			t.Fatalf("Encode %+v: %q, %d", list, b, err)
		}
		r := cord.New(b)
		if got, err := prop.Read(r); err != api.OK || !alikeProps(got, list) || !r.End() {
			t.Fatalf("Read of Encode %q: %+v, %d", b, got, err)
		}
		b = spoilt(rnd, b)
		want, rest, ok := twinRead(string(b))
		r = cord.New(b)
		got, err := prop.Read(r)
		if !ok && (err != api.ErrForm || len(got) != 0) || ok && (err != api.OK || !alikeProps(got, want) || r.Left() != len(rest)) {
			t.Fatalf("Read %q: %+v, %d; twin %+v, %v", b, got, err, want, ok)
		}
		if again, e := prop.Encode(got); ok && (e != api.OK || string(again) != string(b[:len(b)-r.Left()])) {
			t.Fatalf("Encode of Read %q: %q, %d", b, again, e)
		}
		seen[ok]++
	}
	if seen[true] < 500 || seen[false] < 500 {
		t.Errorf("not both: %v", seen)
	}
}

// spoilt: bytes with one of them turned, gone or new, or cut off.
func spoilt(r *rand.Rand, b []byte) []byte {
	const pool = "0123456789;:,-ibtfaz\x00"
	b = bytes.Clone(b)
	c := pool[r.Intn(len(pool))]
	switch i := r.Intn(len(b)); r.Intn(5) {
	case 0:
		b[i] = c
	case 1:
		b = slices.Delete(b, i, i+1)
	case 2:
		b = slices.Insert(b, i, c)
	case 3:
		b = b[:i]
	case 4:
		b = append(b, c)
	}
	return b
}

// TestP7_2_OfFewerBytesNothingIsRead: cut anywhere, properties' bytes aren't any's.
func TestP7_2_OfFewerBytesNothingIsRead(t *testing.T) {
	for _, c := range laid {
		for n := range len(c.bytes) {
			if got, err := prop.Read(cord.New([]byte(c.bytes[:n]))); err != api.ErrForm || len(got) != 0 {
				t.Fatalf("Read %q: %+v, %d", c.bytes[:n], got, err)
			}
		}
	}
}

// roomy: the same properties, with room behind them, and all of that room.
func roomy(list []api.Prop, room int) (roomy, whole []api.Prop) {
	whole = slices.Clone(list)
	for i := range room {
		whole = append(whole, of("room", num(i)))
	}
	return whole[:len(list)], whole
}

func overwrite(list []api.Prop) {
	for i := range list[:cap(list)] {
		list[:cap(list)][i] = of("over", text("written"))
	}
}

func TestP7_5_WhatIsHandedInIsNotChanged(t *testing.T) {
	r := rand.New(rand.NewSource(11))
	for range 3000 {
		list := someProps(r, 18)
		if r.Intn(4) == 0 {
			list = broken(r, list)
		}
		given, whole := roomy(list, r.Intn(4))
		before := slices.Clone(whole)
		p := of(someName(r), some(r))
		if len(list) > 0 && r.Intn(2) == 0 {
			p.Name = list[r.Intn(len(list))].Name
		}
		prop.Valid(given)
		prop.Get(given, p.Name)
		prop.Set(given, p)
		prop.Encode(given)
		if !alikeProps(whole, before) {
			t.Fatalf("changed: %+v, it was %+v", whole, before)
		}
	}
}

func TestP7_5_SetAnswersNewMemory(t *testing.T) {
	r := rand.New(rand.NewSource(12))
	for range 3000 {
		given, whole := roomy(someProps(r, 15), r.Intn(4))
		p := of(someName(r), some(r))
		if len(given) > 0 && r.Intn(2) == 0 {
			p = given[r.Intn(len(given))]
		}
		first, err := prop.Set(given, p)
		second, _ := prop.Set(given, p)
		if err != api.OK {
			t.Fatalf("Set: %d", err)
		}
		before, want := slices.Clone(whole), slices.Clone(first)
		overwrite(first)
		if !alikeProps(whole, before) || !alikeProps(second, want) {
			t.Fatal("an answer shares memory with the list, or with a later answer")
		}
		overwrite(whole)
		if !alikeProps(second, want) {
			t.Fatal("the list that was handed in is kept")
		}
	}
}

func TestP7_5_EncodeAnswersNewMemory(t *testing.T) {
	given, _ := roomy(full(), 3)
	first, _ := prop.Encode(given)
	second, _ := prop.Encode(given)
	want := string(second)
	for i := range first[:cap(first)] {
		first[:cap(first)][i] = '!'
	}
	overwrite(given)
	if string(second) != want || want != twinEncode(full()) {
		t.Error("Encode: two answers share memory, or the list is kept")
	}
	if again, err := prop.Encode(full()); err != api.OK || string(again) != want {
		t.Errorf("Encode anew: %q, %d", again, err)
	}
	none, _ := prop.Encode(nil)
	for i := range none[:cap(none)] {
		none[:cap(none)][i] = '!'
	}
	if again, err := prop.Encode(nil); err != api.OK || string(again) != "0;" {
		t.Errorf("Encode of none anew: %q, %d", again, err)
	}
}

func TestP7_5_ReadAnswersNewMemory(t *testing.T) {
	one := twinEncode(full())
	b := []byte(one + one + "0;7;")
	whole := bytes.Clone(b)
	r := cord.New(b)
	first, _ := prop.Read(r)
	overwrite(first)
	second, err := prop.Read(r)
	if err != api.OK || !alikeProps(second, full()) {
		t.Fatalf("Read anew: %+v, %d", second, err)
	}
	overwrite(first)
	if !bytes.Equal(b, whole) {
		t.Error("Read changed the bytes")
	}
	for i := range b {
		b[i] = '!'
	}
	if !alikeProps(second, full()) {
		t.Error("Read: two answers share memory, or the bytes are kept")
	}
	if none, err := prop.Read(r); err != api.OK || len(none) != 0 || r.Num() != 7 || !r.End() {
		t.Errorf("Read of none behind: %+v, %d", none, err)
	}
}

// TestP1_BesideAnErrorNothing: every call ends at odd arguments, and beside an error the rest is zero.
func TestP1_BesideAnErrorNothing(t *testing.T) {
	huge := make([]api.Prop, 1<<16)
	if prop.Valid(huge) {
		t.Error("Valid of many")
	}
	if got, err := prop.Set(huge, of("a", num(1))); err != api.ErrMsg || got != nil {
		t.Errorf("Set into many: %d", err)
	}
	if got, err := prop.Encode(huge); err != api.ErrMsg || got != nil {
		t.Errorf("Encode of many: %d", err)
	}
	if got, err := prop.Set(full(), of("a", num(1))); err != api.ErrRoom || got != nil {
		t.Errorf("Set beyond 16: %d", err)
	}
	if got, err := prop.Text(truth(2)); err != api.ErrMsg || got != "" {
		t.Errorf("Text: %q, %d", got, err)
	}
	if got, err := prop.Read(cord.New([]byte("2;1:a,2:i7,"))); err != api.ErrForm || got != nil {
		t.Errorf("Read: %+v, %d", got, err)
	}
}
