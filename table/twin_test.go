package table_test

import (
	"bytes"
	"encoding/binary"
	"fmt"
	"math"
	"math/rand"
	"regexp"
	"slices"
	"strings"
	"testing"

	"trivet/api"
)

// The twin does what the chapter says by the library's means, and knows nothing of the layers below.

var aName = regexp.MustCompile(`^[a-z0-9_-]{1,16}$`)

// canBe: whether properties can be a message's.
func canBe(list []api.Prop) bool {
	for at, p := range list {
		v := p.Value
		var only api.Value
		switch {
		case v.Kind == vInt:
			only = whole(v.Num)
		case v.Kind == vBool && (v.Num == 0 || v.Num == 1):
			only = truth(v.Num)
		case v.Kind == vText && len(v.Text) <= maxText:
			only = text(v.Text)
		case v.Kind == vReal && v.Real == v.Real:
			only = real(v.Real)
		case v.Kind == vReal:
			only = bitsReal(heldNaN)
		}
		if only.Kind == 0 || !same(v, only) || !aName.MatchString(p.Name) || at > 0 && list[at-1].Name >= p.Name {
			return false
		}
	}
	return len(list) <= maxProps
}

// twinPut: a table's bytes.
func twinPut(list []api.Prop) (string, bool) {
	if !canBe(list) {
		return "", false
	}
	var b []string
	for _, p := range list {
		v := p.Value
		switch narrow := float32(v.Real); {
		case v.Kind == vInt:
			b = append(b, field(p.Name, "l", big(8, uint64(v.Num))))
		case v.Kind == vBool:
			b = append(b, field(p.Name, "t", big(1, uint64(v.Num))))
		case v.Kind == vText:
			b = append(b, field(p.Name, "S", long(v.Text)))
		case v.Real != v.Real:
			b = append(b, field(p.Name, "f", raw("7fc00000")))
		case float64(narrow) == v.Real:
			b = append(b, field(p.Name, "f", big(4, uint64(math.Float32bits(narrow)))))
		default:
			b = append(b, field(p.Name, "d", big(8, math.Float64bits(v.Real))))
		}
	}
	return fields(b...), true
}

// source hands out bytes till there are too few, and remembers that.
type source struct {
	*bytes.Reader
	bad bool
}

func from(s string) *source { return &source{Reader: bytes.NewReader([]byte(s))} }

// into reads a number of the library's kinds.
func (s *source) into(n any) {
	s.bad = s.bad || binary.Read(s, binary.BigEndian, n) != nil
}

// next: the next so many bytes.
func (s *source) next(n int) string {
	if s.bad = s.bad || n > s.Len(); s.bad {
		return ""
	}
	b := make([]byte, n)
	s.Read(b)
	return string(b)
}

func (s *source) short() string {
	var n uint8
	s.into(&n)
	return s.next(int(n))
}

func (s *source) long() string {
	var n uint32
	s.into(&n)
	return s.next(int(n))
}

// number: the next number of one of the library's kinds.
func number[T int8 | int16 | int32 | int64 | uint8 | uint16 | uint32 | uint64 | float32 | float64](s *source) T {
	var n T
	s.into(&n)
	return n
}

// held: a float as it is held.
func held(x float64) float64 {
	if x != x {
		return math.Float64frombits(heldNaN)
	}
	return x
}

// value: the value of a field behind its letter.
func (s *source) value(letter string) api.Value {
	switch letter {
	case "t":
		return truth(int(number[uint8](s)))
	case "b":
		return whole(int(number[int8](s)))
	case "s":
		return whole(int(number[int16](s)))
	case "I":
		return whole(int(number[int32](s)))
	case "l":
		return whole(int(number[int64](s)))
	case "f":
		return real(held(float64(number[float32](s))))
	case "d":
		return real(held(number[float64](s)))
	case "S":
		return text(s.long())
	}
	s.bad = true
	return api.Value{}
}

// props: the table that comes next.
func (s *source) props() []api.Prop {
	in := from(s.long())
	var list []api.Prop
	for in.Len() > 0 && !in.bad {
		name := in.short()
		list = append(list, api.Prop{Name: name, Value: in.value(in.next(1))})
	}
	slices.SortStableFunc(list, func(a, b api.Prop) int { return strings.Compare(a.Name, b.Name) })
	s.bad = s.bad || in.bad || !canBe(list)
	return list
}

// twinTake: what Take answers.
func twinTake(b string) takes {
	s := from(b)
	list := s.props()
	if s.bad {
		return takes{err: errForm}
	}
	return takes{list, len(b) - s.Len(), ok}
}

// twinDecode: what Decode answers.
func twinDecode(b string) decodes {
	s := from(b)
	m := api.Method{Class: int(number[uint16](s)), Id: int(number[uint16](s))}
	k, there := kindOf(m.Class, m.Id)
	for _, letter := range k.form {
		switch letter {
		case 'o', 'b':
			m.Nums = append(m.Nums, int(number[uint8](s)))
		case 'h':
			m.Nums = append(m.Nums, int(number[uint16](s)))
		case 'l':
			m.Nums = append(m.Nums, int(number[uint32](s)))
		case 'L':
			n := number[uint64](s)
			s.bad = s.bad || n > 1<<63-1
			m.Nums = append(m.Nums, int(n))
		case 's':
			m.Texts = append(m.Texts, s.short())
		case 'S':
			x := s.long()
			s.bad = s.bad || len(x) > maxBody
			m.Texts = append(m.Texts, x)
		case 'T':
			m.Props = s.props()
		}
	}
	if !there || s.bad || s.Len() > 0 {
		return decodes{err: errForm}
	}
	return decodes{m, ok}
}

// twinEncode: what Encode answers.
func twinEncode(m api.Method) puts {
	k, there := kindOf(m.Class, m.Id)
	nums, texts, props := strings.Count(k.form, "")-1, 0, 0
	for _, letter := range "sST" {
		n := strings.Count(k.form, string(letter))
		nums -= n
		if letter == 'T' {
			props = n
		} else {
			texts += n
		}
	}
	if !there || len(m.Nums) != nums || len(m.Texts) != texts || props == 0 && len(m.Props) > 0 {
		return puts{err: errArg}
	}
	b, fits := big(2, uint64(k.class))+big(2, uint64(k.id)), true
	nums, texts = 0, 0
	for _, letter := range k.form {
		switch letter {
		case 's', 'S':
			x := m.Texts[texts]
			texts++
			if letter == 's' {
				fits = fits && len(x) <= 255
				b += short(x)
			} else {
				fits = fits && len(x) <= maxBody
				b += long(x)
			}
		case 'T':
			x, can := twinPut(m.Props)
			fits = fits && can
			b += x
		default:
			n := m.Nums[nums]
			nums++
			size := map[rune]int{'o': 1, 'b': 1, 'h': 2, 'l': 4, 'L': 8}[letter]
			most := uint64(1)<<(8*size-1)*2 - 1
			fits = fits && n >= 0 && uint64(n) <= most
			b += big(size, uint64(n))
		}
	}
	if !fits {
		return puts{err: errArg}
	}
	return puts{b, ok}
}

// spoilt: bytes that are a little other ones.
func spoilt(r *rand.Rand, s string) string {
	b := []byte(s)
	for range 1 + r.Intn(3) {
		if len(b) == 0 {
			return string(b)
		}
		at := r.Intn(len(b))
		switch r.Intn(7) {
		case 0:
			b[at] ^= 1 << r.Intn(8)
		case 1:
			b[at] = byte(r.Intn(256))
		case 2:
			b[at] += byte(r.Intn(5) - 2)
		case 3:
			b = slices.Delete(b, at, at+1)
		case 4:
			b = slices.Insert(b, at, byte(r.Intn(256)))
		case 5:
			b[at] = one(r, []byte("tbsIlfdSoFxTADV")...)
		case 6:
			b = b[:at]
		}
	}
	return string(b)
}

func TestP15_1_BytesOfAllKindsAsTheTwinReadsThem(t *testing.T) {
	t.Parallel()
	r := rand.New(rand.NewSource(151))
	count := make(map[api.Errno]int)
	for n := range 60000 {
		list := someProps(r)
		var all []string
		for _, p := range list {
			all = append(all, someField(r, p))
		}
		r.Shuffle(len(all), func(a, b int) { all[a], all[b] = all[b], all[a] })
		s := fields(all...)
		if n%3 > 0 {
			s = spoilt(r, s)
		}
		got := take(s)
		is(t, fmt.Sprintf("Take of %.300q", s), got, twinTake(s))
		count[got.err]++

		s = encode(someMethod(r)).b
		if n%3 > 0 {
			s = spoilt(r, s)
		}
		back := decode(s)
		is(t, fmt.Sprintf("Decode of %.300q", s), back, twinDecode(s))
		count[back.err]++
		if t.Failed() {
			return
		}
	}
	if count[ok] < 30000 || count[errForm] < 30000 || len(count) != 2 {
		t.Errorf("how often what: %v", count)
	}
}

func TestP15_1_MethodsOfAllKindsAsTheTwinWritesThem(t *testing.T) {
	t.Parallel()
	r := rand.New(rand.NewSource(152))
	count := make(map[api.Errno]int)
	for range 40000 {
		m := someMethod(r)
		if other := someMethod(r); r.Intn(2) == 0 {
			switch r.Intn(6) {
			case 0:
				m.Class = other.Class
			case 1:
				m.Id = other.Id
			case 2:
				m.Nums = other.Nums
			case 3:
				m.Texts = other.Texts
			case 4:
				m.Props = other.Props
			case 5:
				if len(m.Nums) > 0 {
					m.Nums[r.Intn(len(m.Nums))] = someNum(r, 64)
				}
			}
		}
		got := encode(m)
		is(t, fmt.Sprintf("Encode of %.300s", fmt.Sprintf("%#v", m)), got, twinEncode(m))
		count[got.err]++
	}
	if count[ok] < 10000 || count[errArg] < 5000 || len(count) != 2 {
		t.Errorf("how often what: %v", count)
	}
}

func TestP15_1_TablesOfAllKindsAsTheTwinWritesThem(t *testing.T) {
	t.Parallel()
	r := rand.New(rand.NewSource(153))
	for range 20000 {
		list := someProps(r)
		ahead := someText(r, 20)
		b, _ := twinPut(list)
		is(t, fmt.Sprintf("Put of %.300s", fmt.Sprintf("%#v", list)), put(ahead, list), puts{ahead + b, ok})
	}
}
