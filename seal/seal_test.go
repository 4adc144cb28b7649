package seal_test

import (
	"bytes"
	"math"
	"math/big"
	"math/rand"
	"strings"
	"testing"

	"trivet/seal"
)

// The exact signatures: the test isn't built if one is another.
var (
	_ func(int) uint64                    = seal.Start
	_ func(uint64, []byte) uint64         = seal.Add
	_ func(int, []byte) uint64            = seal.Of
	_ func([]byte, uint64) []byte         = seal.Put
	_ func([]byte) ([]byte, uint64, bool) = seal.Take
)

// prime is the chapter's P.
const prime = 1<<31 - 1

// ones is the number with all its bits set.
const ones = math.MaxUint64

// sumOf is the sum with these halves.
func sumOf(left, right uint64) uint64 { return left<<31 | right }

// all256 is each byte once.
func all256() string {
	b := make([]byte, 256)
	for i := range b {
		b[i] = byte(i)
	}
	return string(b)
}

// The numbers below were worked out apart from the program, so that it isn't held against itself.

func TestP2_1_Start(t *testing.T) {
	for _, c := range []struct {
		seed        int
		left, right uint64
	}{
		{0, 0, 1},
		{1, 1, 2},
		{5, 5, 6},
		{-1, prime - 1, 0},
		{-2, prime - 2, prime - 1},
		{prime - 2, prime - 2, prime - 1},
		{prime - 1, prime - 1, 0},
		{prime, 0, 1},
		{prime + 1, 1, 2},
		{2*prime - 1, prime - 1, 0},
		{2 * prime, 0, 1},
		{-prime + 1, 1, 2},
		{-prime, 0, 1},
		{-prime - 1, prime - 1, 0},
		{-2 * prime, 0, 1},
		{prime * prime, 0, 1},
		{prime*prime - 1, prime - 1, 0},
		{-prime*prime - 1, prime - 1, 0},
		{1 << 32, 2, 3},
		{-1<<32 - 1, 2147483644, 2147483645},
		{math.MaxInt, 1, 2},
		{math.MaxInt - 1, 0, 1},
		{math.MinInt, prime - 2, prime - 1},
		{math.MinInt + 1, prime - 1, 0},
	} {
		if got, want := seal.Start(c.seed), sumOf(c.left, c.right); got != want {
			t.Errorf("Start(%d) = %#x, want %#x", c.seed, got, want)
		}
	}
}

func TestP2_1_Of(t *testing.T) {
	for _, c := range []struct {
		seed int
		b    string
		want uint64
	}{
		{0, "", 1},
		{0, "a", 98<<31 | 65697},
		{prime, "a", 0x31000100a1},
		{0, "\x00", 0x80010040},
		{0, "\x00\x00", 0x81007f0fc3},
		{0, "\xff", 0x800001013f},
		{0, "ab", 0x316280e02804},
		{0, "ba", 0x31e280e12842},
		{5, "hello", 0x2025a19336f94457},
		{-1, "", 0x3fffffff00000000},
		{-1, "hello", 0x2078c726b94cd65},
		{prime - 1, strings.Repeat("\xff", 9), 0x3fffffff6138419e},
		{prime - 2, strings.Repeat("\xff", 1000), 0x2128836b90dbfb20},
		{math.MaxInt, all256(), 0x362efecae98593a0},
		{math.MinInt, all256(), 0x8b866778647084a},
	} {
		if got := seal.Of(c.seed, []byte(c.b)); got != c.want {
			t.Errorf("Of(%d, %q) = %#x, want %#x", c.seed, c.b, got, c.want)
		}
	}
	if got := seal.Of(7, nil); got != seal.Start(7) {
		t.Errorf("Of no bytes: %#x", got)
	}
}

func TestP2_1_AddToAnyNumber(t *testing.T) {
	for _, c := range []struct {
		sum, none, a, two uint64 // with no byte behind it, with a, with 00 and ff
	}{
		{0, 0, 0x3100000062, 0x1008001013f},
		{1, 1, 0x31000100a1, 0x100807f10c2},
		{prime - 1, prime - 1, 0x317fff0022, 0x100ff82f1bb},
		// Halves of P are 0.
		{prime, 0, 0x3100000062, 0x1008001013f},
		{prime << 31, 0, 0x3100000062, 0x1008001013f},
		{prime<<31 | prime, 0, 0x3100000062, 0x1008001013f},
		{(prime - 1) << 31, 0x3fffffff00000000, 0x3fffffb000000062, 0x3fff7fff8001013f},
		{(prime-1)<<31 | prime, 0x3fffffff00000000, 0x3fffffb000000062, 0x3fff7fff8001013f},
		{(prime-1)<<31 | (prime - 1), 0x3fffffff7ffffffe, 0x3fffffb07fff0022, 0x3fff7fffff82f1bb},
		{prime<<31 | (prime - 1), prime - 1, 0x317fff0022, 0x100ff82f1bb},
		// Bits above the lowest 62 don't count.
		{1 << 62, 0, 0x3100000062, 0x1008001013f},
		{1 << 63, 0, 0x3100000062, 0x1008001013f},
		{3 << 62, 0, 0x3100000062, 0x1008001013f},
		{ones, 0, 0x3100000062, 0x1008001013f},
		{ones - 1, prime - 1, 0x317fff0022, 0x100ff82f1bb},
		{ones ^ 1<<31, 0x3fffffff00000000, 0x3fffffb000000062, 0x3fff7fff8001013f},
		{3<<62 | 0x31000100a1, 0x31000100a1, 0x316200e02803, 0x316331decbc39e},
		{0x123456789abcdef0, 0x123456789abcdef0, 0x68acf4e736b12f8, 0x1159ed2af9f17b37},
	} {
		for _, x := range []struct {
			b    []byte
			want uint64
		}{{nil, c.none}, {[]byte{}, c.none}, {make([]byte, 0, 8), c.none}, {[]byte("a"), c.a}, {[]byte{0, 255}, c.two}} {
			if got := seal.Add(c.sum, x.b); got != x.want {
				t.Errorf("Add(%#x, %q) = %#x, want %#x", c.sum, x.b, got, x.want)
			}
		}
	}
}

// The chapter's words in numbers that can't run out of bits.

func rest(n *big.Int) *big.Int {
	return new(big.Int).Mod(n, big.NewInt(prime)) // never below 0
}

func wholeSum(left, right *big.Int) uint64 {
	n := new(big.Int).Lsh(left, 31)
	return n.Add(n, right).Uint64()
}

func slowStart(seed int) uint64 {
	n := rest(big.NewInt(int64(seed)))
	return wholeSum(n, rest(new(big.Int).Add(n, big.NewInt(1))))
}

func slowAdd(sum uint64, b []byte) uint64 {
	n, half := new(big.Int).SetUint64(sum), big.NewInt(1<<31)
	left := rest(new(big.Int).Mod(new(big.Int).Div(n, half), half))
	right := rest(new(big.Int).Mod(n, half))
	for _, c := range b {
		left = rest(left.Add(left.Mul(left, big.NewInt(257)), big.NewInt(int64(c)+1)))
		right = rest(right.Add(right.Mul(right, big.NewInt(65599)), big.NewInt(int64(c)+1)))
	}
	return wholeSum(left, right)
}

// someBytes are any, or all of them the same at an edge.
func someBytes(rnd *rand.Rand, most int) []byte {
	b := make([]byte, rnd.Intn(most+1))
	rnd.Read(b)
	switch rnd.Intn(4) {
	case 0:
		clear(b)
	case 1:
		for i := range b {
			b[i] = 255
		}
	}
	return b
}

// someSeed is any, or one next to a multiple of P.
func someSeed(rnd *rand.Rand) int {
	if rnd.Intn(2) == 0 {
		return (rnd.Intn(2*prime)-prime)*prime + rnd.Intn(5) - 2
	}
	return int(rnd.Uint64()) >> rnd.Intn(64)
}

// someSum is any number, or one with a half at its edge.
func someSum(rnd *rand.Rand) uint64 {
	n := rnd.Uint64()
	switch rnd.Intn(4) {
	case 0:
		n |= prime
		n -= uint64(rnd.Intn(3))
	case 1:
		n |= prime << 31
		n -= uint64(rnd.Intn(3)) << 31
	}
	return n
}

func TestP2_1_AsInNumbersOfAnyLength(t *testing.T) {
	rnd := rand.New(rand.NewSource(1))
	for range 20000 {
		seed, sum, b := someSeed(rnd), someSum(rnd), someBytes(rnd, 40)
		if got, want := seal.Start(seed), slowStart(seed); got != want {
			t.Fatalf("Start(%d) = %#x, want %#x", seed, got, want)
		}
		if got, want := seal.Add(sum, b), slowAdd(sum, b); got != want {
			t.Fatalf("Add(%#x, %x) = %#x, want %#x", sum, b, got, want)
		}
		if got, want := seal.Of(seed, b), slowAdd(slowStart(seed), b); got != want {
			t.Fatalf("Of(%d, %x) = %#x, want %#x", seed, b, got, want)
		}
	}
}

func TestP2_1_HalvesOfAnswersAreRests(t *testing.T) {
	rnd := rand.New(rand.NewSource(2))
	check := func(what string, sum uint64) {
		t.Helper()
		if sum>>31 >= prime || sum&prime >= prime {
			t.Fatalf("%s: %#x isn't two rests by P", what, sum)
		}
	}
	for range 20000 {
		b := someBytes(rnd, 3)
		check("Start", seal.Start(someSeed(rnd)))
		check("Add", seal.Add(someSum(rnd), b))
		check("Of", seal.Of(someSeed(rnd), b))
	}
}

func TestP2_1_LongBytes(t *testing.T) {
	b := bytes.Repeat([]byte(all256()), 1<<10)
	if got, want := seal.Of(-3, b), slowAdd(slowStart(-3), b); got != want {
		t.Errorf("a quarter of a million bytes: %#x, want %#x", got, want)
	}
}

func TestP2_1_Put(t *testing.T) {
	for _, c := range []struct {
		b    string
		sum  uint64
		want string
	}{
		{"", 0, "\x00\x00\x00\x00\x00\x00\x00\x00"},
		{"", 98<<31 | 65697, "\x00\x00\x00\x31\x00\x01\x00\xa1"},
		{"x", 98<<31 | 65697, "x\x00\x00\x00\x31\x00\x01\x00\xa1"},
		{"", 0x0102030405060708, "\x01\x02\x03\x04\x05\x06\x07\x08"},
		{"", 1, "\x00\x00\x00\x00\x00\x00\x00\x01"},
		{"", 1 << 63, "\x80\x00\x00\x00\x00\x00\x00\x00"},
		// The number as it is, not as a sum.
		{"ab\x00", ones, "ab\x00\xff\xff\xff\xff\xff\xff\xff\xff"},
		{"", prime, "\x00\x00\x00\x00\x7f\xff\xff\xff"},
	} {
		if got := seal.Put([]byte(c.b), c.sum); string(got) != c.want {
			t.Errorf("Put(%q, %#x) = %x, want %x", c.b, c.sum, got, c.want)
		}
	}
	if got := seal.Put(nil, 0xf1); string(got) != "\x00\x00\x00\x00\x00\x00\x00\xf1" {
		t.Errorf("Put of nil: %x", got)
	}
}

func TestP2_1_Take(t *testing.T) {
	for _, c := range []struct {
		in, ahead string
		sum       uint64
	}{
		{"\x00\x00\x00\x00\x00\x00\x00\x00", "", 0},
		{"\x01\x02\x03\x04\x05\x06\x07\x08", "", 0x0102030405060708},
		{"x\x00\x00\x00\x31\x00\x01\x00\xa1", "x", 98<<31 | 65697},
		{"\xff\xff\xff\xff\xff\xff\xff\xff", "", ones},
		{"\xff\x80\x00\x00\x00\x00\x00\x00\x00", "\xff", 1 << 63},
		{"\x01\x02\x03\x04\x05\x06\x07\x08\x09\x0a\x0b\x0c\x0d\x0e\x0f\x10", "\x01\x02\x03\x04\x05\x06\x07\x08", 0x090a0b0c0d0e0f10},
		{"hello, world", "hell", 0x6f2c20776f726c64},
	} {
		if ahead, sum, ok := seal.Take([]byte(c.in)); string(ahead) != c.ahead || sum != c.sum || !ok {
			t.Errorf("Take(%x) = %x, %#x, %v", c.in, ahead, sum, ok)
		}
	}
}

func TestP2_1_TakeOfTooFew(t *testing.T) {
	check := func(b []byte) {
		t.Helper()
		if ahead, sum, ok := seal.Take(b); len(ahead) != 0 || sum != 0 || ok {
			t.Errorf("Take of %d bytes = %x, %#x, %v", len(b), ahead, sum, ok)
		}
	}
	check(nil)
	check([]byte{})
	for n := range 8 {
		check(bytes.Repeat([]byte{0xff}, n))
		check(bytes.Repeat([]byte{0xff}, 16)[:n]) // the spare room has no bytes of it
	}
}

func TestP2_2_InTwoPieces(t *testing.T) {
	rnd := rand.New(rand.NewSource(3))
	for range 200 {
		seed, sum, b := someSeed(rnd), someSum(rnd), someBytes(rnd, 60)
		for at := range len(b) + 1 {
			if seal.Add(seal.Of(seed, b[:at]), b[at:]) != seal.Of(seed, b) {
				t.Fatalf("from the seed %d on: %x, cut at %d", seed, b, at)
			}
			if seal.Add(seal.Add(sum, b[:at]), b[at:]) != seal.Add(sum, b) {
				t.Fatalf("from the number %#x on: %x, cut at %d", sum, b, at)
			}
		}
	}
}

func TestP2_2_InManyPieces(t *testing.T) {
	rnd := rand.New(rand.NewSource(4))
	for range 2000 {
		seed, b := someSeed(rnd), someBytes(rnd, 200)
		one, some := seal.Start(seed), seal.Start(seed)
		for _, c := range b {
			one = seal.Add(seal.Add(one, nil), []byte{c})
		}
		for left := b; len(left) > 0; {
			n := rnd.Intn(len(left) + 1) // a piece may have no bytes
			some = seal.Add(some, left[:n])
			left = left[n:]
		}
		if want := seal.Of(seed, b); one != want || some != want {
			t.Fatalf("from the seed %d on, %x: one by one %#x, in some pieces %#x, at once %#x", seed, b, one, some, want)
		}
	}
}

func TestP2_3_OneByteChanged(t *testing.T) {
	rnd := rand.New(rand.NewSource(5))
	for range 40 {
		seed, b := someSeed(rnd), someBytes(rnd, 30)
		was := seal.Of(seed, b)
		for i, c := range b {
			for n := range 256 {
				b[i] = byte(n)
				if (seal.Of(seed, b) == was) != (b[i] == c) {
					t.Fatalf("from the seed %d on: byte %d from %d to %d: %x", seed, i, c, n, b)
				}
			}
			b[i] = c
		}
	}
}

func TestP2_3_EachPairOfBytesAlone(t *testing.T) {
	seen := map[uint64]int{}
	for n := range 256 {
		seen[seal.Of(0, []byte{byte(n)})]++
	}
	if len(seen) != 256 {
		t.Errorf("256 bytes have %d sums", len(seen))
	}
	for x := range 256 {
		for y := range x {
			a, b := []byte{byte(x), byte(y)}, []byte{byte(y), byte(x)}
			if seal.Of(0, a) == seal.Of(0, b) {
				t.Fatalf("%x and %x have one sum", a, b)
			}
		}
	}
}

func TestP2_3_NeighboursChanged(t *testing.T) {
	rnd := rand.New(rand.NewSource(6))
	for range 2000 {
		seed, b := someSeed(rnd), someBytes(rnd, 60)
		was := seal.Of(seed, b)
		for i := 1; i < len(b); i++ {
			b[i-1], b[i] = b[i], b[i-1]
			if (seal.Of(seed, b) == was) != (b[i-1] == b[i]) {
				t.Fatalf("from the seed %d on: bytes %d and %d changed for one another: %x", seed, i-1, i, b)
			}
			b[i-1], b[i] = b[i], b[i-1]
		}
	}
}

func TestP2_3_AnotherSeed(t *testing.T) {
	rnd := rand.New(rand.NewSource(7))
	seeds := []int{0, 1, 2, -1, -2, prime - 1, prime, prime + 1, -prime, 2 * prime, 1 << 31, 1 << 32, -1 << 32, math.MaxInt, math.MinInt, math.MinInt + 1}
	for range 100 {
		seeds = append(seeds, someSeed(rnd))
	}
	alike := func(x, y int) bool {
		return rest(big.NewInt(int64(x))).Cmp(rest(big.NewInt(int64(y)))) == 0
	}
	for range 20 {
		b := someBytes(rnd, 40)
		for _, x := range seeds {
			for _, y := range seeds {
				if (seal.Of(x, b) == seal.Of(y, b)) != alike(x, y) {
					t.Fatalf("the seeds %d and %d, of %x", x, y, b)
				}
			}
		}
	}
}

func TestP2_4_TakeOfPut(t *testing.T) {
	rnd := rand.New(rand.NewSource(8))
	check := func(b []byte, sum uint64) {
		t.Helper()
		whole := seal.Put(b, sum)
		if len(whole) != len(b)+8 {
			t.Fatalf("Put(%x, %#x) = %x", b, sum, whole)
		}
		if ahead, got, ok := seal.Take(whole); !bytes.Equal(ahead, b) || got != sum || !ok {
			t.Fatalf("Take of Put(%x, %#x) = %x, %#x, %v", b, sum, ahead, got, ok)
		}
	}
	for bit := range 64 {
		check(nil, 1<<bit)
		check([]byte{}, ones^1<<bit)
	}
	for range 5000 {
		check(someBytes(rnd, 40), someSum(rnd))
	}
	// And back: what was taken, put anew, is just the bytes.
	for range 5000 {
		b := append(someBytes(rnd, 40), "12345678"...)
		ahead, sum, _ := seal.Take(b)
		if got := seal.Put(ahead, sum); !bytes.Equal(got, b) {
			t.Fatalf("Put of Take(%x) = %x", b, got)
		}
	}
}

func TestP2_4_TwoSumsBehindOneAnother(t *testing.T) {
	b, inner, ok := seal.Take(seal.Put(seal.Put([]byte("x"), 1), 2))
	if inner != 2 || !ok {
		t.Fatalf("the last one: %d, %v", inner, ok)
	}
	if b, first, ok := seal.Take(b); string(b) != "x" || first != 1 || !ok {
		t.Fatalf("the one ahead of it: %q, %d, %v", b, first, ok)
	}
}

// roomy: bytes with spare room behind them, and the whole of it.
func roomy(s string) (b, whole []byte) {
	whole = bytes.Repeat([]byte{'#'}, len(s)+64)
	copy(whole, s)
	return whole[:len(s)], whole
}

// fill writes a byte over all the memory that a list has, its spare room too.
func fill(b []byte, c byte) {
	for i := range cap(b) {
		b[:cap(b)][i] = c
	}
}

func TestP2_4_SumsLeaveWhatTheyAreGiven(t *testing.T) {
	for _, s := range []string{"", "abc", all256()} {
		b, whole := roomy(s)
		was := string(whole)
		first := seal.Add(3, b)
		second := seal.Of(4, b)
		if string(whole) != was {
			t.Errorf("%q: what was handed in is changed: %q", s, whole)
		}
		fill(whole, '!')
		if seal.Add(3, []byte(s)) != first || seal.Of(4, []byte(s)) != second {
			t.Errorf("%q: what was handed in is kept", s)
		}
	}
}

func TestP2_4_PutLeavesWhatItIsGiven(t *testing.T) {
	for _, s := range []string{"", "abc", strings.Repeat("z", 100)} {
		b, whole := roomy(s)
		was := string(whole)
		first, second := seal.Put(b, 7), seal.Put(b, 7)
		want := s + "\x00\x00\x00\x00\x00\x00\x00\x07"
		if string(whole) != was {
			t.Errorf("%q: what was handed in is changed: %q", s, whole)
		}
		fill(whole, '!')
		if string(first) != want || string(second) != want {
			t.Errorf("%q: the answer is kept in what was handed in", s)
		}
		fill(second, '?')
		if string(first) != want {
			t.Errorf("%q: two answers share memory", s)
		}
		if bytes.ContainsRune(whole, '?') {
			t.Errorf("%q: the answer is what was handed in", s)
		}
	}
}

func TestP2_4_TakeLeavesWhatItIsGiven(t *testing.T) {
	for _, s := range []string{"", "x", "abc", strings.Repeat("z", 100)} {
		b, whole := roomy(s + "12345678")
		was := string(whole)
		first, sum, ok := seal.Take(b)
		second, _, _ := seal.Take(b)
		if string(whole) != was {
			t.Errorf("%q: what was handed in is changed: %q", s, whole)
		}
		// The spare room of an answer is memory of it too.
		fill(second, '?')
		if string(whole) != was {
			t.Errorf("%q: the answer is what was handed in: %q", s, whole)
		}
		fill(whole, '!')
		if string(first) != s || sum != 0x3132333435363738 || !ok {
			t.Errorf("%q: Take answered %q, %#x, %v", s, first, sum, ok)
		}
	}
}

func TestP2_4_TakeOfTooFewLeavesWhatItIsGiven(t *testing.T) {
	b, whole := roomy("1234567")
	was := string(whole)
	ahead, _, _ := seal.Take(b)
	fill(ahead, '?')
	if string(whole) != was {
		t.Errorf("what was handed in is changed: %q", whole)
	}
}

func TestP2_4_NothingIsKeptFromCallToCall(t *testing.T) {
	want := seal.Of(5, []byte("hello"))
	seal.Of(6, []byte("other"))
	seal.Add(ones, []byte("other"))
	seal.Take(seal.Put([]byte("other"), ones))
	seal.Start(-1)
	if seal.Of(5, []byte("hello")) != want || seal.Start(0) != 1 || seal.Add(prime, nil) != 0 {
		t.Error("an answer hangs on earlier calls")
	}
}
