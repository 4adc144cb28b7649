package flt_test

import (
	"math"
	"math/big"
	"math/bits"
	"math/rand"
	"slices"
	"strconv"
	"strings"
	"testing"

	"trivet/api"
	"trivet/flt"
)

// The exact signatures: the test isn't built if one is another.
var (
	_ func(float64) float64             = flt.Canon
	_ func(float64) uint64              = flt.Key
	_ func(uint64) (float64, bool)      = flt.Unkey
	_ func(float64, float64) int        = flt.Compare
	_ func(float64) string              = flt.Text
	_ func(string) (float64, api.Errno) = flt.Parse
	_ func(float64) (uint32, bool)      = flt.Narrow
	_ func(uint32) float64              = flt.Widen
)

// The chapter's bits, not the program's.
const (
	sign   = uint64(1) << 63
	inf    = uint64(0x7ff) << 52
	nan    = uint64(0x7ff8000000000001)
	most   = uint64(0x7fefffffffffffff) // the greatest finite float
	normal = uint64(0x0010000000000000) // the least one with all its digits
)

func of(b uint64) float64 { return math.Float64frombits(b) }

func bitsOf(x float64) uint64 { return math.Float64bits(x) }

// held: the bits that a float with these bits is held by, told without a float.
func held(b uint64) uint64 {
	if b&^sign > inf {
		return nan
	}
	return b
}

// key: the chapter's rule, on bits alone.
func key(b uint64) uint64 {
	b = held(b)
	if b>>63 == 1 {
		return b ^ math.MaxUint64
	}
	return b + sign
}

// edges: bits at which something turns, with both signs, NaN of many kinds among them, and their neighbours.
func edges() []uint64 {
	mid := []uint64{0, normal, inf, nan, most, 0x7ff8000000000000, 0x7fffffffffffffff, 0x7ff0000000000001,
		bitsOf(1), bitsOf(0.1), bitsOf(0.5), bitsOf(100000), bitsOf(1e6), bitsOf(0.0001), bitsOf(1e-5), bitsOf(1e21), bitsOf(1 << 53),
		bitsOf(0x1p-149), bitsOf(0x1p-150), bitsOf(0x1p-126), bitsOf(0x1p127), bitsOf(0x1p128), bitsOf(math.MaxFloat32), bitsOf(1 << 24)}
	var all []uint64
	for _, b := range mid {
		for d := uint64(0); d < 5; d++ {
			for _, n := range []uint64{b + d - 2, b + (d-2)<<28, b + (d-2)<<29} {
				all = append(all, n, n^sign)
			}
		}
	}
	for e := range uint64(2048) {
		all = append(all, e<<52, e<<52|sign, (e+1)<<52-1)
	}
	return all
}

// some: the edges, and so many chosen ones of all sizes.
func some(seed int64, n int) []uint64 {
	r := rand.New(rand.NewSource(seed))
	all := edges()
	for range n {
		b := r.Uint64()
		switch r.Intn(6) {
		case 0:
			b &= sign | 1<<uint(r.Intn(53)) - 1 // below 2 to the -1022
		case 1:
			b = bitsOf(float64(r.Intn(1<<uint(1+r.Intn(30)))) / float64(1+r.Intn(1000)))
		case 2:
			b = bitsOf(float64(math.Float32frombits(r.Uint32())))
		case 3:
			b |= inf
		}
		all = append(all, b)
	}
	return all
}

func TestP6_1_CanonTellsOneNaNOfAll(t *testing.T) {
	for _, c := range []struct{ from, to uint64 }{
		{0x7ff8000000000001, 0x7ff8000000000001},
		{0x7ff8000000000000, 0x7ff8000000000001},
		{0x7ff0000000000001, 0x7ff8000000000001},
		{0x7fffffffffffffff, 0x7ff8000000000001},
		{0xfff8000000000001, 0x7ff8000000000001},
		{0xfff0000000000001, 0x7ff8000000000001},
		{0xffffffffffffffff, 0x7ff8000000000001},
		{0x7ff0000000000000, 0x7ff0000000000000},
		{0xfff0000000000000, 0xfff0000000000000},
		{0x0000000000000000, 0x0000000000000000},
		{0x8000000000000000, 0x8000000000000000},
		{0x0000000000000001, 0x0000000000000001},
		{0xffefffffffffffff, 0xffefffffffffffff},
	} {
		if got := bitsOf(flt.Canon(of(c.from))); got != c.to {
			t.Errorf("Canon %016x: %016x, want %016x", c.from, got, c.to)
		}
	}
	for _, b := range some(1, 20000) {
		if got := bitsOf(flt.Canon(of(b))); got != held(b) {
			t.Fatalf("Canon %016x: %016x", b, got)
		}
	}
}

func TestP6_1_KeyByTheRule(t *testing.T) {
	for _, c := range []struct{ float, key uint64 }{
		{0x0000000000000000, 0x8000000000000000},
		{0x8000000000000000, 0x7fffffffffffffff},
		{0x0000000000000001, 0x8000000000000001},
		{0x8000000000000001, 0x7ffffffffffffffe},
		{0x000fffffffffffff, 0x800fffffffffffff},
		{0x0010000000000000, 0x8010000000000000},
		{0x7fefffffffffffff, 0xffefffffffffffff},
		{0xffefffffffffffff, 0x0010000000000000},
		{0x7ff0000000000000, 0xfff0000000000000},
		{0xfff0000000000000, 0x000fffffffffffff},
		{0x3ff0000000000000, 0xbff0000000000000},
		{0xbff0000000000000, 0x400fffffffffffff},
		{0x7ff8000000000001, 0xfff8000000000001},
		{0x7ff0000000000001, 0xfff8000000000001},
		{0x7fffffffffffffff, 0xfff8000000000001},
		{0xfff8000000000001, 0xfff8000000000001},
		{0xfff8000000000077, 0xfff8000000000001},
		{0xffffffffffffffff, 0xfff8000000000001},
	} {
		if got := flt.Key(of(c.float)); got != c.key {
			t.Errorf("Key %016x: %016x, want %016x", c.float, got, c.key)
		}
	}
	for _, b := range some(2, 20000) {
		if got := flt.Key(of(b)); got != key(b) {
			t.Fatalf("Key %016x: %016x", b, got)
		}
	}
}

func TestP6_1_UnkeyTellsWhatIsNoKey(t *testing.T) {
	for _, c := range []struct {
		key, float uint64
		is         bool
	}{
		{0x8000000000000000, 0x0000000000000000, true},
		{0x7fffffffffffffff, 0x8000000000000000, true},
		{0x8000000000000001, 0x0000000000000001, true},
		{0x7ffffffffffffffe, 0x8000000000000001, true},
		{0x0010000000000000, 0xffefffffffffffff, true},
		{0x000fffffffffffff, 0xfff0000000000000, true},
		{0x000ffffffffffffe, 0x7ff8000000000001, false},
		{0x0007fffffffffffe, 0x7ff8000000000001, false}, // the held NaN's bits with the sign, turned
		{0x0000000000000001, 0x7ff8000000000001, false},
		{0x0000000000000000, 0x7ff8000000000001, false},
		{0xffefffffffffffff, 0x7fefffffffffffff, true},
		{0xfff0000000000000, 0x7ff0000000000000, true},
		{0xfff0000000000001, 0x7ff8000000000001, false},
		{0xfff8000000000000, 0x7ff8000000000001, false},
		{0xfff8000000000001, 0x7ff8000000000001, true},
		{0xfff8000000000002, 0x7ff8000000000001, false},
		{0xffffffffffffffff, 0x7ff8000000000001, false},
	} {
		x, is := flt.Unkey(c.key)
		if bitsOf(x) != c.float || is != c.is {
			t.Errorf("Unkey %016x: %016x, %v, want %016x, %v", c.key, bitsOf(x), is, c.float, c.is)
		}
	}
	for _, k := range some(3, 20000) {
		b := k ^ math.MaxUint64
		if k>>63 == 1 {
			b = k ^ sign
		}
		x, is := flt.Unkey(k)
		if bitsOf(x) != held(b) || is != (key(b) == k) {
			t.Fatalf("Unkey %016x: %016x, %v", k, bitsOf(x), is)
		}
	}
}

func TestP6_1_CompareByTheOrder(t *testing.T) {
	line := []uint64{inf | sign, most | sign, bitsOf(-2), bitsOf(-1), normal | sign, (normal - 1) | sign, 1 | sign, sign,
		0, 1, normal - 1, normal, bitsOf(1), bitsOf(2), most, inf, nan}
	for i, a := range line {
		for k, b := range line {
			want := 0
			if i < k {
				want = -1
			} else if i > k {
				want = 1
			}
			if got := flt.Compare(of(a), of(b)); got != want {
				t.Errorf("Compare %016x, %016x: %d, want %d", a, b, got, want)
			}
		}
	}
}

func TestP6_1_CompareHoldsAllNaNForOne(t *testing.T) {
	all := []uint64{nan, nan | sign, inf + 1, (inf + 1) | sign, 0x7fffffffffffffff, 0xffffffffffffffff, 0x7ff8000000000000}
	for _, a := range all {
		for _, b := range all {
			if got := flt.Compare(of(a), of(b)); got != 0 {
				t.Errorf("Compare %016x, %016x: %d", a, b, got)
			}
		}
		for _, b := range []uint64{inf, most, 0, sign, most | sign, inf | sign} {
			if flt.Compare(of(a), of(b)) != 1 || flt.Compare(of(b), of(a)) != -1 {
				t.Errorf("Compare %016x and %016x", a, b)
			}
		}
	}
}

// texts: bits and the text that a float with them has, worked out apart.
var texts = []struct {
	bits uint64
	text string
}{
	{0x7ff8000000000001, "NaN"},
	{0x7ff0000000000000, "+Inf"},
	{0xfff0000000000000, "-Inf"},
	{0x0000000000000000, "0"},
	{0x8000000000000000, "-0"},
	{0x0000000000000001, "5e-324"},
	{0x8000000000000001, "-5e-324"},
	{0x0000000000000003, "1.5e-323"},
	{0x000fffffffffffff, "2.225073858507201e-308"},
	{0x0010000000000000, "2.2250738585072014e-308"},
	{0x8010000000000000, "-2.2250738585072014e-308"},
	{0x7fefffffffffffff, "1.7976931348623157e+308"},
	{0xffefffffffffffff, "-1.7976931348623157e+308"},
	{0x7fe0000000000000, "8.98846567431158e+307"},
	{0x3ff0000000000000, "1"},
	{0xbff0000000000000, "-1"},
	{0x3ff8000000000000, "1.5"},
	{0x3fe0000000000000, "0.5"},
	{0x3fb999999999999a, "0.1"},
	{0xbfb999999999999a, "-0.1"},
	{0x3fd5555555555555, "0.3333333333333333"},
	{0x3fd3333333333334, "0.30000000000000004"},
	{0x3ff0000000000001, "1.0000000000000002"},
	{0x400921fb54442d18, "3.141592653589793"},
	// The edges of the way with an exponent: from 1e6 on, and below 1e-4.
	{0x40f86a0000000000, "100000"},
	{0x412e847e00000000, "999999"},
	{0x412e847f00000000, "999999.5"},
	{0x412e847fffffffff, "999999.9999999999"},
	{0x412e848000000000, "1e+06"},
	{0x412e848100000000, "1.0000005e+06"},
	{0x4132d68700000000, "1.234567e+06"},
	{0x40fe240800000000, "123456.5"},
	{0x3f1a36e2eb1c432d, "0.0001"},
	{0x3f202e4b6ce5dc68, "0.00012345"},
	{0x3f1a36e2eb1c432c, "9.999999999999999e-05"},
	{0x3f1a36d1bd105b06, "9.9999e-05"},
	{0x3ee4f8b588e368f1, "1e-05"},
	{0x3e7ad7f29abcaf48, "1e-07"},
	{0x41cdcd6500000000, "1e+09"},
	{0x4202a05f20000000, "1e+10"},
	{0x4415af1d78b58c40, "1e+20"},
	{0x444b1ae4d6e2ef50, "1e+21"},
	{0x4480f0cf064dd592, "1e+22"},
	{0x44b52d02c7e14af6, "1e+23"},
	{0x4340000000000000, "9.007199254740992e+15"},
	{0x547d42aea2879f2e, "1e+99"},
	{0x54b249ad2594c37d, "1e+100"},
	{0x2b617f7d4ed8c33e, "1e-99"},
	{0x2b2bff2ee48e0530, "1e-100"},
	{0x36a0000000000000, "1.401298464324817e-45"},
	{0x3810000000000000, "1.1754943508222875e-38"},
	{0x47efffffe0000000, "3.4028234663852886e+38"},
}

func TestP6_1_TextsAndTheirFloats(t *testing.T) {
	for _, c := range texts {
		if got := flt.Text(of(c.bits)); got != c.text {
			t.Errorf("Text %016x: %q, want %q", c.bits, got, c.text)
		}
		x, e := flt.Parse(c.text)
		if bitsOf(x) != c.bits || e != api.OK {
			t.Errorf("Parse %q: %016x, %d, want %016x", c.text, bitsOf(x), e, c.bits)
		}
	}
	for _, b := range []uint64{nan | sign, inf + 1, (inf + 1) | sign, 0x7fffffffffffffff, 0xffffffffffffffff, 0x7ff8000000000000} {
		if got := flt.Text(of(b)); got != "NaN" {
			t.Errorf("Text %016x: %q", b, got)
		}
	}
}

// power: ten to the e, for e of both signs.
func power(e int) *big.Rat {
	n := new(big.Int).Exp(big.NewInt(10), big.NewInt(int64(max(e, -e))), nil)
	if e < 0 {
		return new(big.Rat).SetFrac(big.NewInt(1), n)
	}
	return new(big.Rat).SetInt(n)
}

// nearest: of two decimal numbers on either side of r the one that leads back to x; if both do, the nearer one, of two as near the even one; nil: neither does.
func nearest(r, low, scale *big.Rat, x float64) *big.Int {
	var best *big.Int
	var away *big.Rat
	for _, n := range []*big.Int{new(big.Int).Set(low.Num()), new(big.Int).Add(low.Num(), big.NewInt(1))} {
		v := new(big.Rat).Quo(new(big.Rat).SetInt(n), scale)
		if back, _ := v.Float64(); back != x {
			continue
		}
		d := new(big.Rat).Sub(v, r)
		d.Abs(d)
		if best == nil || d.Cmp(away) < 0 || d.Cmp(away) == 0 && n.Bit(0) == 0 {
			best, away = n, d
		}
	}
	return best
}

// digits: the fewest decimal digits that tell a finite x above nought apart, and the power of ten of the first of them, by exact fractions.
func digits(x float64) (string, int) {
	r := new(big.Rat).SetFloat64(x)
	e := int(math.Floor(math.Log10(x)))
	for r.Cmp(power(e)) < 0 {
		e--
	}
	for r.Cmp(power(e+1)) >= 0 {
		e++
	}
	for n := 1; ; n++ {
		scale := power(n - 1 - e)
		up := new(big.Rat).Mul(r, scale)
		low := new(big.Rat).SetInt(new(big.Int).Quo(up.Num(), up.Denom()))
		if best := nearest(r, low, scale, x); best != nil {
			s := best.String()
			e += len(s) - n
			return strings.TrimRight(s, "0"), e
		}
	}
}

// text: a float's text, by exact fractions.
func text(b uint64) string {
	switch {
	case b&^sign > inf:
		return "NaN"
	case b == inf:
		return "+Inf"
	case b>>63 == 1:
		return "-" + strings.TrimPrefix(text(b^sign), "+")
	case b == 0:
		return "0"
	}
	d, e := digits(of(b))
	if e < -4 || e >= 6 {
		if len(d) > 1 {
			d = d[:1] + "." + d[1:]
		}
		mark := "e+"
		if e < 0 {
			mark, e = "e-", -e
		}
		if e < 10 {
			mark += "0"
		}
		return d + mark + strconv.Itoa(e)
	}
	if e < 0 {
		return "0." + strings.Repeat("0", -e-1) + d
	}
	if len(d) <= e+1 {
		return d + strings.Repeat("0", e+1-len(d))
	}
	return d[:e+1] + "." + d[e+1:]
}

func TestP6_1_TextHasTheFewestDigits(t *testing.T) {
	for _, c := range texts {
		if got := text(c.bits); got != c.text {
			t.Fatalf("the test's own text of %016x: %q, want %q", c.bits, got, c.text)
		}
	}
	for _, b := range some(4, 3000) {
		if got, want := flt.Text(of(b)), text(b); got != want {
			t.Fatalf("Text %016x: %q, want %q", b, got, want)
		}
	}
}

func TestP6_1_ParseRefusesWhatIsNoText(t *testing.T) {
	for _, s := range []string{
		"", " ", "nan", "NAN", "Nan", "+NaN", "-NaN", "NaN ", " NaN", "NaN(1)", "naN", "N", "Na",
		"Inf", "inf", "+inf", "-inf", "+INF", "+Infinity", "-Infinity", "Infinity", "+Inf ", "--Inf", "++Inf",
		"+0", "-00", "00", "0.0", "-0.0", "0e0", "0e+00", ".0", "0.", "-", "+", ".", "-.", "e", "e1", "-e1",
		"1.0", "1.", "01", "+1", "-01", "--1", "1.50", "10.0", "1e", "1e+", "1e0", "1e+00", "1e5", "1e+05", "1.5e0", ".5", "+0.5", "-.5", "00.5",
		"1E+21", "1e21", "1e+021", "1e+21 ", "1.0e+21", "10e+20", "0.1e+22", "1e+6", "1e6", "1000000", "1234567", "0.00001", "1e-5", "1e-005", "0.1e-04", "1e-04",
		"1e400", "1e+400", "-1e400", "1e+309", "1.8e+308", "1e-400", "-1e-400", "2e-324", "4e-324", "4.9e-324", "4.940656458412465e-324",
		"0.10", "0.1000000000000000055511151231257827", "0.10000000000000001", "0.30000000000000005", "3.1415926535897932", "1.00000000000000020", "2.2250738585072012e-308", "1.7976931348623158e+308",
		"1_000", "1_0", "0_1", "_1", "1_", "1e+2_1",
		"0x1p-2", "0x1p+0", "0X1P+0", "0x1", "0x10", "0x_1p0", "-0x1p-2", "0b1", "0o7",
		" 1", "1 ", "\t1", "1\n", "1\r\n", "1 5", "1\x00", "\x001", "- 1", "1\u00a0", "\ufeff1",
		"\u0661", "\u0967", "\uff11", "\u2212" + "1", "\uff0b" + "Inf", "\u221e", "-\u221e", "1\uff0e5", "\u00bd", "1\u0435+21", "1\xff", "\xff",
		"1,5", "1.5.5", "1e+21e", "1..5", "1f", "1i", "0.5f", "1e1.5", "one", "1-", "1+1",
	} {
		x, e := flt.Parse(s)
		if e != api.ErrForm || bitsOf(x) != 0 {
			t.Errorf("Parse %q: %016x, %d", s, bitsOf(x), e)
		}
	}
}

func TestP6_1_ParseOfTextsWithOneSignAnother(t *testing.T) {
	const signs = "0123456789.+-eE_xNaInf \x00\xff"
	r := rand.New(rand.NewSource(5))
	good, bad := 0, 0
	for range 60000 {
		s := []byte(texts[r.Intn(len(texts))].text)
		at := r.Intn(len(s))
		switch c := signs[r.Intn(len(signs))]; r.Intn(3) {
		case 0:
			s[at] = c
		case 1:
			s = slices.Insert(s, at, c)
		case 2:
			s = slices.Delete(s, at, at+1)
		}
		want, err := strconv.ParseFloat(string(s), 64)
		x, e := flt.Parse(string(s))
		if err == nil && text(bitsOf(want)) == string(s) {
			good++
			if bitsOf(x) != held(bitsOf(want)) || e != api.OK {
				t.Fatalf("Parse %q: %016x, %d", s, bitsOf(x), e)
			}
			continue
		}
		bad++
		if bitsOf(x) != 0 || e != api.ErrForm {
			t.Fatalf("Parse %q: %016x, %d", s, bitsOf(x), e)
		}
	}
	if good < 1000 || bad < 1000 {
		t.Errorf("%d texts were some, %d none", good, bad)
	}
}

func TestP6_1_ParseOfLongTextsAndOfAnyBytes(t *testing.T) {
	for _, s := range []string{
		strings.Repeat("1", 1<<20), "0." + strings.Repeat("0", 1<<20) + "1", "1e+" + strings.Repeat("9", 1<<20),
		"1" + strings.Repeat("0", 1<<16) + "e-65536", strings.Repeat("-", 1<<16), "0x" + strings.Repeat("f", 1<<16) + "p-9",
	} {
		if x, e := flt.Parse(s); e != api.ErrForm || bitsOf(x) != 0 {
			t.Errorf("Parse of %d bytes from %q on: %d", len(s), s[:2], e)
		}
	}
	r := rand.New(rand.NewSource(6))
	for range 20000 {
		s := make([]byte, r.Intn(5))
		for i := range s {
			s[i] = byte(r.Intn(256))
		}
		x, e := flt.Parse(string(s))
		if e == api.OK && text(bitsOf(x)) != string(s) || e != api.OK && (e != api.ErrForm || bitsOf(x) != 0) {
			t.Fatalf("Parse %q: %016x, %d", s, bitsOf(x), e)
		}
	}
}

// narrow: the bits of the 32, worked out on whole numbers: the value is m times two to the e, with m odd.
func narrow(b uint64) (uint32, bool) {
	s, m, e := uint32(b>>63)<<31, b&(1<<52-1), int(b>>52&0x7ff)-1075
	switch {
	case b&^sign > inf:
		return 0x7fc00000, true
	case b&^sign == inf:
		return s | 0x7f800000, true
	case b&^sign == 0:
		return s, true
	case e == -1075:
		e++
	default:
		m |= 1 << 52
	}
	z := bits.TrailingZeros64(m)
	m, e = m>>z, e+z
	size := bits.Len64(m)
	if size > 24 || e < -149 || e+size > 128 {
		return 0, false
	}
	for e > -149 && m < 1<<23 {
		m, e = m<<1, e-1
	}
	if m < 1<<23 {
		return s | uint32(m), true
	}
	return s | uint32(e+150)<<23 | uint32(m&(1<<23-1)), true
}

func TestP6_1_NarrowTellsWhatFits(t *testing.T) {
	for _, c := range []struct {
		float  uint64
		narrow uint32
		is     bool
	}{
		{0x3fe0000000000000, 0x3f000000, true},
		{0x3ff0000000000000, 0x3f800000, true},
		{0xc000000000000000, 0xc0000000, true},
		{0x3ff8000000000000, 0x3fc00000, true},
		{0x0000000000000000, 0x00000000, true},
		{0x8000000000000000, 0x80000000, true},
		{0x7ff0000000000000, 0x7f800000, true},
		{0xfff0000000000000, 0xff800000, true},
		{0x7ff8000000000001, 0x7fc00000, true},
		{0x7ff0000000000001, 0x7fc00000, true},
		{0x7fffffffffffffff, 0x7fc00000, true},
		{0xfff8000000000000, 0x7fc00000, true},
		{0xffffffffffffffff, 0x7fc00000, true},
		{0x36a0000000000000, 0x00000001, true}, // 2 to the -149
		{0xb6a0000000000000, 0x80000001, true},
		{0x36b0000000000000, 0x00000002, true},
		{0x36b8000000000000, 0x00000003, true},
		{0x3690000000000000, 0, false}, // 2 to the -150
		{0x36a0000000000001, 0, false},
		{0x36a8000000000000, 0, false}, // one and a half of the least
		{0x3810000000000000, 0x00800000, true},
		{0x380fffffc0000000, 0x007fffff, true},
		{0x380fffffe0000000, 0, false}, // 24 digits, below 2 to the -126
		{0x380fffffc0000001, 0, false},
		{0x47efffffe0000000, 0x7f7fffff, true},
		{0xc7efffffe0000000, 0xff7fffff, true},
		{0x47efffffe0000001, 0, false},
		{0x47effffff0000000, 0, false},
		{0x47f0000000000000, 0, false}, // 2 to the 128
		{0xc7f0000000000000, 0, false},
		{0x7fefffffffffffff, 0, false},
		{0xffefffffffffffff, 0, false},
		{0x0000000000000001, 0, false},
		{0x8000000000000001, 0, false},
		{0x0010000000000000, 0, false},
		{0x3fb999999999999a, 0, false},
		{0x3ff0000020000000, 0x3f800001, true},
		{0x3ff0000010000000, 0, false},
		{0x3ff0000000000001, 0, false},
		{0x416fffffe0000000, 0x4b7fffff, true},
		{0x4170000000000000, 0x4b800000, true},
		{0x4170000010000000, 0, false}, // 2 to the 24, and one
	} {
		b, is := flt.Narrow(of(c.float))
		if b != c.narrow || is != c.is {
			t.Errorf("Narrow %016x: %08x, %v, want %08x, %v", c.float, b, is, c.narrow, c.is)
		}
	}
	for _, b := range some(7, 40000) {
		want, fits := narrow(b)
		if got, is := flt.Narrow(of(b)); got != want || is != fits {
			t.Fatalf("Narrow %016x: %08x, %v, want %08x, %v", b, got, is, want, fits)
		}
	}
}

// widen: the bits of the 64, worked out on whole numbers.
func widen(b uint32) uint64 {
	s, e, m := uint64(b>>31)<<63, int(b>>23&0xff), uint64(b&(1<<23-1))
	switch {
	case e == 0xff && m != 0:
		return nan
	case e == 0xff:
		return s | inf
	case e == 0 && m == 0:
		return s
	case e == 0:
		up := 24 - bits.Len64(m)
		m, e = m<<up, 1-up
	}
	return s | uint64(e+896)<<52 | m&(1<<23-1)<<29
}

// narrows: 32 bits of all kinds: each exponent, both signs, digits at the edges and some of all.
func narrows() []uint32 {
	r := rand.New(rand.NewSource(8))
	var all []uint32
	for top := range uint32(512) {
		for _, m := range []uint32{0, 1, 2, 3, 1<<22 - 1, 1 << 22, 1<<22 + 1, 1<<23 - 2, 1<<23 - 1} {
			all = append(all, top<<23|m)
		}
		for range 50 {
			all = append(all, top<<23|uint32(r.Intn(1<<23))>>r.Intn(23))
		}
	}
	for n := uint64(0); n < 1<<32; n += 65521 {
		all = append(all, uint32(n))
	}
	return all
}

func TestP6_1_WidenTellsTheSameValue(t *testing.T) {
	for _, c := range []struct {
		narrow uint32
		float  uint64
	}{
		{0x3f000000, 0x3fe0000000000000},
		{0x3f800000, 0x3ff0000000000000},
		{0xc0000000, 0xc000000000000000},
		{0x00000000, 0x0000000000000000},
		{0x80000000, 0x8000000000000000},
		{0x00000001, 0x36a0000000000000},
		{0x80000001, 0xb6a0000000000000},
		{0x007fffff, 0x380fffffc0000000},
		{0x00800000, 0x3810000000000000},
		{0x7f7fffff, 0x47efffffe0000000},
		{0xff7fffff, 0xc7efffffe0000000},
		{0x7f800000, 0x7ff0000000000000},
		{0xff800000, 0xfff0000000000000},
		{0x3dcccccd, 0x3fb99999a0000000},
		{0x7fc00000, 0x7ff8000000000001},
		{0x7fc00001, 0x7ff8000000000001},
		{0x7f800001, 0x7ff8000000000001},
		{0x7fffffff, 0x7ff8000000000001},
		{0xffc00000, 0x7ff8000000000001},
		{0xff800001, 0x7ff8000000000001},
		{0xffffffff, 0x7ff8000000000001},
	} {
		if got := bitsOf(flt.Widen(c.narrow)); got != c.float {
			t.Errorf("Widen %08x: %016x, want %016x", c.narrow, got, c.float)
		}
	}
	for _, b := range narrows() {
		if got := bitsOf(flt.Widen(b)); got != widen(b) {
			t.Fatalf("Widen %08x: %016x, want %016x", b, got, widen(b))
		}
	}
}

func TestP6_2_KeyAndCompareAreOneOrder(t *testing.T) {
	all := some(9, 600)
	r := rand.New(rand.NewSource(10))
	for range 300000 {
		a, b := all[r.Intn(len(all))], all[r.Intn(len(all))]
		if r.Intn(4) == 0 {
			b = a ^ 1<<uint(r.Intn(64))
		}
		x, y := of(a), of(b)
		got, k, l := flt.Compare(x, y), flt.Key(x), flt.Key(y)
		if (got == -1) != (k < l) || (got == 0) != (k == l) || (got == 1) != (k > l) {
			t.Fatalf("Compare %016x, %016x: %d, by keys %016x, %016x", a, b, got, k, l)
		}
		if flt.Compare(y, x) != -got {
			t.Fatalf("Compare %016x, %016x: %d, and turned round not the other", a, b, got)
		}
		if (got == 0) != (held(a) == held(b)) {
			t.Fatalf("Compare %016x, %016x: %d", a, b, got)
		}
	}
}

func TestP6_2_ForNumbersTheOrderIsThatOfLess(t *testing.T) {
	all := some(11, 600)
	r := rand.New(rand.NewSource(12))
	for range 300000 {
		a, b := all[r.Intn(len(all))], all[r.Intn(len(all))]
		x, y := of(a), of(b)
		if x != x || y != y || x == 0 && y == 0 {
			continue
		}
		if got := flt.Compare(x, y); (got == -1) != (x < y) || (got == 1) != (x > y) || (got == 0) != (x == y) {
			t.Fatalf("Compare %016x, %016x: %d", a, b, got)
		}
		if (flt.Key(x) < flt.Key(y)) != (x < y) {
			t.Fatalf("Key of %016x and %016x", a, b)
		}
	}
}

func TestP6_2_SortedTheyStandAsTheOrderSays(t *testing.T) {
	all := some(13, 20000)
	slices.SortFunc(all, func(a, b uint64) int { return flt.Compare(of(a), of(b)) })
	// kind: the order's places, of which the finite ones are gone through by <.
	kind := func(b uint64) int {
		x := of(b)
		switch {
		case b == inf|sign:
			return 0
		case x < 0:
			return 1
		case b == sign:
			return 2
		case b == 0:
			return 3
		case x > 0 && b != inf:
			return 4
		case b == inf:
			return 5
		}
		return 6
	}
	for i := 1; i < len(all); i++ {
		a, b := all[i-1], all[i]
		if kind(a) > kind(b) || of(a) > of(b) {
			t.Fatalf("%016x stands ahead of %016x", a, b)
		}
	}
}

func TestP6_3_UnkeyOfKey(t *testing.T) {
	for _, b := range some(14, 20000) {
		x, is := flt.Unkey(flt.Key(of(b)))
		if bitsOf(x) != held(b) || !is {
			t.Fatalf("Unkey of Key of %016x: %016x, %v", b, bitsOf(x), is)
		}
	}
	for _, k := range some(15, 20000) {
		if x, is := flt.Unkey(k); is && flt.Key(x) != k {
			t.Fatalf("Key of Unkey of %016x: %016x", k, flt.Key(x))
		}
	}
}

func TestP6_3_ParseOfText(t *testing.T) {
	for _, b := range some(16, 40000) {
		s := flt.Text(of(b))
		x, e := flt.Parse(s)
		if bitsOf(x) != held(b) || e != api.OK {
			t.Fatalf("Parse of %q, %016x's text: %016x, %d", s, b, bitsOf(x), e)
		}
	}
}

func TestP6_3_WidenOfNarrow(t *testing.T) {
	fit := 0
	for _, b := range some(17, 40000) {
		n, is := flt.Narrow(of(b))
		if !is {
			continue
		}
		fit++
		if got := bitsOf(flt.Widen(n)); got != held(b) {
			t.Fatalf("Widen of Narrow of %016x: %016x", b, got)
		}
	}
	if fit < 1000 {
		t.Errorf("just %d fit", fit)
	}
	for _, b := range narrows() {
		want := b
		if b&0x7fffffff > 0x7f800000 {
			want = 0x7fc00000
		}
		if got, is := flt.Narrow(flt.Widen(b)); got != want || !is {
			t.Fatalf("Narrow of Widen of %08x: %08x, %v", b, got, is)
		}
	}
}

func TestP1_NoCallOfFltPanicsAndAnswersHangOnArgumentsAlone(t *testing.T) {
	for _, b := range some(18, 5000) {
		x := of(b)
		k, s, n := flt.Key(x), flt.Text(x), uint32(b)
		for range 2 {
			flt.Parse(s + "0")
			flt.Narrow(of(b ^ 1))
			flt.Unkey(^b)
			flt.Compare(x, of(^b))
			if flt.Key(x) != k || flt.Text(x) != s || bitsOf(flt.Widen(n)) != widen(n) || bitsOf(x) != b {
				t.Fatalf("%016x is told otherwise behind other calls", b)
			}
		}
	}
}
