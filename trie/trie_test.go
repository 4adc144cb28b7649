package trie_test

import (
	"fmt"
	"math"
	"math/rand"
	"reflect"
	"slices"
	"sort"
	"strings"
	"testing"

	"trivet/api"
	"trivet/topic"
	"trivet/trie"
)

// The exact signatures: the test isn't built if one is another.
var (
	_ func() *trie.Trie                       = trie.New
	_ func(*trie.Trie) int                    = (*trie.Trie).Len
	_ func(*trie.Trie, string, int) api.Errno = (*trie.Trie).Add
	_ func(*trie.Trie, string, int) api.Errno = (*trie.Trie).Drop
	_ func(*trie.Trie, string) []int          = (*trie.Trie).Find
	_ func(*trie.Trie) []trie.Pair            = (*trie.Trie).All
	_                                         = struct {
		Pattern string
		Id      int
	}(trie.Pair{})
)

// The document's numbers, not the program's.
const (
	ok       = api.Errno(0)
	errNil   = api.Errno(2)
	errTopic = api.Errno(30)
	errThere = api.Errno(32)
	errNone  = api.Errno(33)
	errRoom  = api.Errno(34)
	most     = 64
)

// What is no pattern.
var neither = []string{
	"", ".", "..", ".a", "a.", "a..b", "#.a", "#.#", "#.*", "a.#.b", "a.#.*", "**", "##", "a*", "#a", "a.b*", "A", "a.B", "a b", "a/b", "+", "a/+", "ä", "a\xff", "a\x00",
	strings.Repeat("z", 17), "a.b.c.d.e.f.g.h.i", "a.b.c.d.e.f.g.h.#", "a.b.c.d.e.f.g.h.*", strings.Repeat("1234567.", 7) + "123456789", strings.Repeat("a.", 1<<16), strings.Repeat("a", 1<<16),
}

// twin holds pairs as a plain list, and looks at them one by one.
type twin []trie.Pair

func (w *twin) add(pattern string, id int) api.Errno {
	p := trie.Pair{Pattern: pattern, Id: id}
	switch {
	case !topic.Pattern(pattern):
		return errTopic
	case slices.Contains(*w, p):
		return errThere
	case len(*w) == most:
		return errRoom
	}
	*w = append(*w, p)
	return ok
}

func (w *twin) drop(pattern string, id int) api.Errno {
	at := slices.Index(*w, trie.Pair{Pattern: pattern, Id: id})
	if at < 0 {
		return errNone
	}
	*w = slices.Delete(*w, at, at+1)
	return ok
}

func (w twin) find(name string) []int {
	seen := map[int]bool{}
	var ids []int
	for _, p := range w {
		if topic.Match(p.Pattern, name) && !seen[p.Id] {
			seen[p.Id] = true
			ids = append(ids, p.Id)
		}
	}
	sort.Ints(ids)
	return ids
}

// all: put in order one by one, by bytes that are held against each other one by one.
func (w twin) all() []trie.Pair {
	var out []trie.Pair
	for _, p := range w {
		at := 0
		for at < len(out) && ahead(out[at], p) {
			at++
		}
		out = slices.Insert(out, at, p)
	}
	return out
}

func ahead(a, b trie.Pair) bool {
	for i := 0; i < len(a.Pattern) && i < len(b.Pattern); i++ {
		if a.Pattern[i] != b.Pattern[i] {
			return a.Pattern[i] < b.Pattern[i]
		}
	}
	if len(a.Pattern) != len(b.Pattern) {
		return len(a.Pattern) < len(b.Pattern)
	}
	return a.Id < b.Id
}

// same: what a trie answers, against the twin; of names what it finds.
func same(t *testing.T, x *trie.Trie, w twin, names ...string) {
	t.Helper()
	if n := x.Len(); n != len(w) {
		t.Errorf("Len is %d, not %d", n, len(w))
	}
	if is, want := x.All(), w.all(); !slices.Equal(is, want) {
		t.Errorf("All is %v, not %v", is, want)
	}
	for _, name := range names {
		if is, want := x.Find(name), w.find(name); !slices.Equal(is, want) {
			t.Errorf("Find(%q) is %v, not %v, in %v", name, is, want, w)
		}
	}
}

// with: a trie and a twin that hold these pairs.
func with(t *testing.T, pairs ...trie.Pair) (*trie.Trie, twin) {
	t.Helper()
	x, w := trie.New(), twin{}
	for _, p := range pairs {
		if e := x.Add(p.Pattern, p.Id); e != ok {
			t.Fatalf("Add(%q, %d): %d", p.Pattern, p.Id, e)
		}
		w.add(p.Pattern, p.Id)
	}
	return x, w
}

// find: what is found of each name, told by hand.
func find(t *testing.T, x *trie.Trie, want map[string][]int) {
	t.Helper()
	for name, ids := range want {
		if is := x.Find(name); !slices.Equal(is, ids) {
			t.Errorf("Find(%q) is %v, not %v", name, is, ids)
		}
	}
}

// answers: that one call answers this.
func answers(t *testing.T, what string, is, want api.Errno) {
	t.Helper()
	if is != want {
		t.Errorf("%s answers %d, not %d", what, is, want)
	}
}

// filled: 64 pairs of all kinds.
func filled(t *testing.T) (*trie.Trie, twin) {
	t.Helper()
	var pairs []trie.Pair
	for i, p := range []string{"#", "*", "a", "a.#", "a.*", "a.b", "*.b", "b"} {
		for k := range 8 {
			pairs = append(pairs, trie.Pair{Pattern: p, Id: (i + k) * (1 - k%2*2)})
		}
	}
	return with(t, pairs...)
}

func TestP9_1_Examples(t *testing.T) {
	x, w := with(t, trie.Pair{Pattern: "a.*", Id: 3}, trie.Pair{Pattern: "#", Id: 1}, trie.Pair{Pattern: "a.b", Id: 3})
	find(t, x, map[string][]int{"a.b": {1, 3}, "a": {1}})
	same(t, x, w, "a.b", "a", "b", "a.c")
	answers(t, "Drop", x.Drop("a.*", 3), ok)
	answers(t, "Drop", x.Drop("#", 1), ok)
	find(t, x, map[string][]int{"a.c": nil, "a.b": {3}, "a": nil})
	same(t, x, twin{{Pattern: "a.b", Id: 3}})
}

func TestP9_1_WithoutPairs(t *testing.T) {
	x := trie.New()
	if x == nil {
		t.Fatal("New is nil")
	}
	same(t, x, nil, "a", "a.b", "", "#", "*")
	answers(t, "Drop of an empty trie", x.Drop("a", 0), errNone)
	answers(t, "Drop of #", x.Drop("#", 0), errNone)
	same(t, x, nil, "a", "a.b")
	answers(t, "Add", x.Add("a", 0), ok)
	answers(t, "Drop", x.Drop("a", 0), ok)
	same(t, x, nil, "a", "a.b")
}

func TestP9_1_NilTrie(t *testing.T) {
	var x *trie.Trie
	for _, p := range append([]string{"a", "a.*", "#"}, neither...) {
		answers(t, "Add of a nil trie", x.Add(p, 1), errNil)
		answers(t, "Drop of a nil trie", x.Drop(p, 1), errNil)
		if is := x.Find(p); len(is) != 0 {
			t.Errorf("Find of a nil trie is %v", is)
		}
	}
	if x.Len() != 0 || len(x.All()) != 0 {
		t.Error("a nil trie holds something")
	}
}

func TestP9_1_Numbers(t *testing.T) {
	ids := []int{0, -1, math.MaxInt, 7, math.MinInt, 1, -7, math.MinInt + 1, math.MaxInt - 1}
	x, w := with(t)
	for _, id := range ids {
		for _, p := range []string{"a", "*", "a.#"} {
			answers(t, "Add", x.Add(p, id), w.add(p, id))
			answers(t, "Add once more", x.Add(p, id), errThere)
		}
		same(t, x, w, "a", "b", "a.b", "b.b")
	}
	rising := []int{math.MinInt, math.MinInt + 1, -7, -1, 0, 1, 7, math.MaxInt - 1, math.MaxInt}
	find(t, x, map[string][]int{"a": rising, "b": rising, "a.b.c": rising, "b.b": nil})
	for _, id := range ids {
		answers(t, "Drop", x.Drop("a", id), w.drop("a", id))
		answers(t, "Drop once more", x.Drop("a", id), errNone)
		same(t, x, w, "a", "b", "a.b", "b.b")
	}
	find(t, x, map[string][]int{"a": rising})
}

// One pattern with several numbers, one number with several patterns: each pair is its own, each number is found once.
func TestP9_1_OnePatternOneNumber(t *testing.T) {
	x, w := with(t, trie.Pair{Pattern: "a.b", Id: 2}, trie.Pair{Pattern: "a.b", Id: 1}, trie.Pair{Pattern: "a.*", Id: 2}, trie.Pair{Pattern: "*.b", Id: 2}, trie.Pair{Pattern: "#", Id: 2}, trie.Pair{Pattern: "a.#", Id: 2}, trie.Pair{Pattern: "a.b.#", Id: 2}, trie.Pair{Pattern: "*.*", Id: 2})
	find(t, x, map[string][]int{"a.b": {1, 2}, "a": {2}, "c.b": {2}, "c": {2}})
	for _, p := range []string{"#", "a.b", "*.*", "a.#", "a.*", "a.b.#"} {
		answers(t, "Drop of "+p, x.Drop(p, 2), w.drop(p, 2))
		find(t, x, map[string][]int{"a.b": {1, 2}})
		same(t, x, w, "a.b", "a", "c.b", "c", "a.b.c")
	}
	answers(t, "Drop of the last one with 2", x.Drop("*.b", 2), ok)
	find(t, x, map[string][]int{"a.b": {1}, "c.b": nil, "a": nil})
}

func TestP9_1_Marks(t *testing.T) {
	for _, c := range []struct {
		pattern string
		has     []string
		hasnt   []string
	}{
		{"#", []string{"a", "a.b", "a.b.c.d.e.f.g.h"}, []string{"", "#", "*", "A"}},
		{"*", []string{"a", "zz"}, []string{"a.b", "*", "#", ""}},
		{"*.*", []string{"a.b"}, []string{"a", "a.b.c"}},
		{"a.*", []string{"a.b", "a.a"}, []string{"a", "b.a", "a.b.c", "a.*"}},
		{"*.a", []string{"b.a", "a.a"}, []string{"a", "a.b", "c.b.a", "*.a"}},
		{"a.*.c", []string{"a.b.c", "a.c.c"}, []string{"a.c", "a.b.b.c", "a.b", "a.b.c.d"}},
		{"a.#", []string{"a", "a.b", "a.b.c", "a.b.c.d.e.f.g.h"}, []string{"b", "b.a", "aa", "a.#"}},
		{"a.b.#", []string{"a.b", "a.b.c"}, []string{"a", "a.c", "b", "a.c.b"}},
		{"*.#", []string{"a", "a.b", "a.b.c"}, []string{"", "*.#"}},
		{"*.*.#", []string{"a.b", "a.b.c"}, []string{"a"}},
		{"a.*.#", []string{"a.b", "a.b.c.d"}, []string{"a", "b.a"}},
		{"*.*.*.*.*.*.*.#", []string{"a.b.c.d.e.f.g", "a.b.c.d.e.f.g.h"}, []string{"a.b.c.d.e.f"}},
		{"a.b.c.d.e.f.g.#", []string{"a.b.c.d.e.f.g", "a.b.c.d.e.f.g.h"}, []string{"a.b.c.d.e.f", "a.b.c.d.e.f.h"}},
		{"*.*.*.*.*.*.*.*", []string{"a.b.c.d.e.f.g.h"}, []string{"a.b.c.d.e.f.g"}},
		{"a.b", []string{"a.b"}, []string{"a", "b", "a.c", "b.a", "a.b.c", "a-b", "ab"}},
	} {
		x, w := with(t, trie.Pair{Pattern: c.pattern, Id: 5})
		same(t, x, w, slices.Concat(c.has, c.hasnt)...)
		for _, name := range c.has {
			find(t, x, map[string][]int{name: {5}})
		}
		for _, name := range c.hasnt {
			find(t, x, map[string][]int{name: nil})
		}
	}
}

// # behind so many words, of a topic with so many: it has it as long as it isn't behind more.
func TestP9_1_OpenBehindEachWord(t *testing.T) {
	words := strings.Split("a.b.c.d.e.f.g.h", ".")
	x, w := trie.New(), twin{}
	for n := range 8 {
		for _, head := range []string{strings.Join(words[:n], "."), strings.TrimSuffix(strings.Repeat("*.", n), ".")} {
			p := strings.TrimPrefix(head+".#", ".")
			answers(t, "Add of "+p, x.Add(p, n), w.add(p, n))
		}
	}
	for n := 1; n <= 8; n++ {
		var want []int
		for id := range min(n+1, 8) {
			want = append(want, id)
		}
		find(t, x, map[string][]int{strings.Join(words[:n], "."): want})
	}
	same(t, x, w, "a", "b", "a.b", "b.a", "a.b.d")
}

// A text that is no topic is found by no pattern, though it is a pattern that is there.
func TestP9_1_FindOfWhatIsNoTopic(t *testing.T) {
	x, w := with(t)
	for i, p := range []string{"#", "*", "a", "a.#", "a.*", "*.#", "*.*", "a.*.#", "*.b", "a.*.b"} {
		answers(t, "Add", x.Add(p, i), w.add(p, i))
	}
	for _, name := range append([]string{"#", "*", "a.#", "a.*", "*.#", "*.*", "a.*.#", "*.b", "a.*.b", "*.a"}, neither...) {
		if is := x.Find(name); len(is) != 0 {
			t.Errorf("Find(%.20q) is %v", name, is)
		}
	}
	same(t, x, w, "a", "a.b")
}

// What is refused changes nothing.
func TestP9_1_WrongInputs(t *testing.T) {
	some, fewer := with(t, trie.Pair{Pattern: "a.b", Id: 1}, trie.Pair{Pattern: "a.*.c", Id: 1}, trie.Pair{Pattern: "#", Id: 2})
	full, whole := filled(t)
	names := []string{"a", "a.b", "a.b.c", "b", "c"}
	for _, p := range neither {
		for _, id := range []int{1, 2, 0, -1} {
			answers(t, "Add of no pattern", some.Add(p, id), errTopic)
			answers(t, "Add of no pattern to a full one", full.Add(p, id), errTopic)
			answers(t, "Drop of no pattern", some.Drop(p, id), errNone)
			answers(t, "Drop of no pattern from a full one", full.Drop(p, id), errNone)
		}
	}
	same(t, some, fewer, names...)
	same(t, full, whole, names...)
	for _, p := range fewer {
		answers(t, "Add of what is there", some.Add(p.Pattern, p.Id), errThere)
	}
	for _, p := range []trie.Pair{{Pattern: "a", Id: 1}, {Pattern: "a.*", Id: 1}, {Pattern: "a.b", Id: 2}, {Pattern: "a.b.c", Id: 1}, {Pattern: "a.#", Id: 1}, {Pattern: "b", Id: 1}, {Pattern: "*", Id: 2}, {Pattern: "#", Id: 1}, {Pattern: "a.*.c.d", Id: 1}, {Pattern: "a.x.c", Id: 1}} {
		answers(t, "Drop of what isn't there", some.Drop(p.Pattern, p.Id), errNone)
	}
	same(t, some, fewer, names...)
}

// 64 pairs and no more; a pair that is there is told to be so ahead of that.
func TestP9_1_Room(t *testing.T) {
	x, w := trie.New(), twin{}
	for i := range most {
		p := []string{"a", "#", "a.*", "b.c"}[i%4]
		answers(t, fmt.Sprint("Add number ", i), x.Add(p, i), w.add(p, i))
	}
	names := []string{"a", "a.b", "b.c", "c"}
	full := func() {
		t.Helper()
		for _, p := range []string{"a", "x", "x.y.z", "*", "a.*", "#"} {
			answers(t, "Add of one more", x.Add(p, 1000), errRoom)
			answers(t, "Drop of what had no room", x.Drop(p, 1000), errNone)
		}
		for _, p := range w {
			answers(t, "Add of what is there", x.Add(p.Pattern, p.Id), errThere)
		}
		answers(t, "Add of no pattern", x.Add("a.", 0), errTopic)
		same(t, x, w, append(names, "x", "x.y.z")...)
	}
	full()
	for _, p := range slices.Clone(w) {
		answers(t, "Drop", x.Drop(p.Pattern, p.Id), w.drop(p.Pattern, p.Id))
		same(t, x, w, names...)
		answers(t, "Drop once more", x.Drop(p.Pattern, p.Id), errNone)
		answers(t, "Add in its place", x.Add("d", p.Id), w.add("d", p.Id))
		answers(t, "Add of it again", x.Add(p.Pattern, p.Id), errRoom)
		same(t, x, w, append(names, "d")...)
	}
	full()
}

// 64 patterns of 8 words, no two of which begin alike.
func TestP9_1_ManyWords(t *testing.T) {
	x, w := trie.New(), twin{}
	var names []string
	for i := range most {
		name := fmt.Sprintf("w%d.b.c.d.e.f.g.h", i)
		names = append(names, name)
		answers(t, "Add", x.Add(name, -i), w.add(name, -i))
	}
	same(t, x, w, names...)
	answers(t, "Add", x.Add("a.b.c.d.e.f.g.h", 0), errRoom)
	for _, name := range names[:32] {
		answers(t, "Drop", x.Drop(name, w[0].Id), w.drop(name, w[0].Id))
	}
	same(t, x, w, names...)
}

// As many ways through as there can be: each word is there, and * too.
func TestP9_1_ManyWays(t *testing.T) {
	x, w := trie.New(), twin{}
	for bits := range most {
		words := make([]string, 6)
		for i := range words {
			words[i] = []string{"a", "*"}[bits>>i&1]
		}
		p := strings.Join(words, ".")
		answers(t, "Add of "+p, x.Add(p, bits), w.add(p, bits))
	}
	if n := len(x.Find("a.a.a.a.a.a")); n != most {
		t.Errorf("%d are found", n)
	}
	same(t, x, w, "a.a.a.a.a.a", "a.a.a.b.a.a", "b.b.b.b.b.b", "a.a.a.a.a", "a.a.a.a.a.a.a")
}

// A pair that was dropped comes again; what shares words with it stays.
func TestP9_1_DroppedAndAgain(t *testing.T) {
	list := []string{"a", "a.b", "a.b.c", "a.b.#", "a.*", "a.*.c", "#", "*", "*.b", "a.b.c.d.e.f.g.h"}
	names := []string{"a", "b", "a.b", "a.c", "a.b.c", "a.c.c", "b.b", "a.b.c.d.e.f.g.h", "a.b.c.d.e.f.g"}
	for _, p := range list {
		x, w := trie.New(), twin{}
		for i, p := range list {
			answers(t, "Add", x.Add(p, i), w.add(p, i))
		}
		id := slices.Index(list, p)
		for range 3 {
			answers(t, "Drop of "+p, x.Drop(p, id), w.drop(p, id))
			same(t, x, w, names...)
			answers(t, "Drop once more of "+p, x.Drop(p, id), errNone)
			answers(t, "Add again of "+p, x.Add(p, id), w.add(p, id))
			same(t, x, w, names...)
			answers(t, "Add once more of "+p, x.Add(p, id), errThere)
		}
	}
}

func TestP9_1_AllIsInOrder(t *testing.T) {
	rising := []string{"#", "*", "*.#", "*.a", "-", "-.a", "0", "_", "a", "a-", "a-.b", "a-b", "a.#", "a.*", "a.*.b", "a.-", "a.0", "a._", "a.b", "a.b.#", "a.b.c", "a.ba", "a0", "a_", "a_.b", "aa", "aa.b", "b", "b.a", "z"}
	ids := []int{math.MinInt, -1, 0, 10}
	var want []trie.Pair
	for i, p := range rising {
		for _, id := range ids[:1+i%2] {
			want = append(want, trie.Pair{Pattern: p, Id: id})
		}
	}
	want = append(want, trie.Pair{Pattern: "zz", Id: -10}, trie.Pair{Pattern: "zz", Id: -9}, trie.Pair{Pattern: "zz", Id: 9}, trie.Pair{Pattern: "zz", Id: 10})
	r := rand.New(rand.NewSource(91))
	for range 20 {
		x := trie.New()
		for _, at := range r.Perm(len(want)) {
			answers(t, "Add", x.Add(want[at].Pattern, want[at].Id), ok)
		}
		if is := x.All(); !slices.Equal(is, want) {
			t.Fatalf("All is %v", is)
		}
	}
}

// some: all patterns of up to so many words, with a word of each of these; the topics among them.
func some(words []string, most int) (topics, patterns []string) {
	heads := []string{""}
	for range most {
		var next []string
		for _, head := range heads {
			patterns = append(patterns, head+"#")
			for _, w := range words {
				patterns = append(patterns, head+w)
				if s := head + w; !strings.Contains(s, "*") {
					topics = append(topics, s)
				}
				next = append(next, head+w+".")
			}
		}
		heads = next
	}
	return topics, patterns
}

// Each pattern of up to three words, alone, against each topic of up to four.
func TestP9_2_EachPatternAlone(t *testing.T) {
	names, _ := some([]string{"a", "b", "c"}, 4)
	_, list := some([]string{"a", "b", "*"}, 3)
	for i, p := range list {
		x, w := with(t, trie.Pair{Pattern: p, Id: i})
		same(t, x, w, names...)
	}
}

// So many of them as there is room for, each with one of a few numbers.
func TestP9_2_FindIsMatchOneByOne(t *testing.T) {
	names, _ := some([]string{"a", "b", "c"}, 4)
	_, list := some([]string{"a", "b", "*"}, 4)
	r := rand.New(rand.NewSource(92))
	found := 0
	for range 150 {
		x, w := trie.New(), twin{}
		for range 1 + r.Intn(70) {
			p, id := list[r.Intn(len(list))], r.Intn(20)-10
			answers(t, "Add", x.Add(p, id), w.add(p, id))
		}
		same(t, x, w, names...)
		found += len(x.Find("a.b"))
	}
	if found < 300 {
		t.Errorf("only %d were found", found)
	}
}

// Adds and Drops in whatever order, of pairs that are there and that aren't.
func TestP9_2_AnyOrder(t *testing.T) {
	names, _ := some([]string{"a", "b"}, 3)
	_, list := some([]string{"a", "b", "*"}, 3)
	list = append(list, "", "a.", "#.a", "A")
	r := rand.New(rand.NewSource(93))
	told := map[api.Errno]int{}
	for range 60 {
		x, w := trie.New(), twin{}
		wide, leave := 1+r.Intn(len(list)), 1+r.Intn(4)
		for range 400 {
			p, id := list[len(list)-1-r.Intn(wide)], r.Intn(4)-2
			var is, want api.Errno
			if r.Intn(4) < leave {
				is, want = x.Add(p, id), w.add(p, id)
			} else {
				is, want = x.Drop(p, id), w.drop(p, id)
			}
			told[want]++
			if is != want {
				t.Fatalf("of %q, %d: %d, not %d", p, id, is, want)
			}
			same(t, x, w, names[r.Intn(len(names))])
		}
		same(t, x, w, names...)
	}
	for _, e := range []api.Errno{ok, errTopic, errThere, errNone, errRoom} {
		if told[e] < 50 {
			t.Errorf("%d was told %d times", e, told[e])
		}
	}
}

// weight: how many things are kept in all that is reached from a trie.
func weight(x *trie.Trie) int {
	return reached(reflect.ValueOf(x))
}

func reached(v reflect.Value) int {
	sum := 1
	switch v.Kind() {
	case reflect.Pointer, reflect.Interface:
		if !v.IsNil() {
			sum += reached(v.Elem())
		}
	case reflect.Struct:
		for i := range v.NumField() {
			sum += reached(v.Field(i))
		}
	case reflect.Slice, reflect.Array:
		for i := range v.Len() {
			sum += reached(v.Index(i))
		}
	case reflect.Map:
		for _, key := range v.MapKeys() {
			sum += 1 + reached(v.MapIndex(key))
		}
	}
	return sum
}

// The same pairs, by other ways: what is answered is the same, and so is what is kept.
func TestP9_2_OrderPlaysNoPart(t *testing.T) {
	names, _ := some([]string{"a", "b", "c"}, 3)
	_, list := some([]string{"a", "b", "*"}, 4)
	r := rand.New(rand.NewSource(94))
	for range 40 {
		pick := r.Perm(len(list))
		left, right := trie.New(), trie.New()
		var w twin
		for _, at := range pick[:24] {
			answers(t, "Add", left.Add(list[at], at%5), w.add(list[at], at%5))
		}
		for _, at := range pick[:60] {
			answers(t, "Add", right.Add(list[at], at%5), ok)
		}
		for i, at := range r.Perm(60) {
			if at >= 24 {
				answers(t, "Drop", right.Drop(list[pick[at]], pick[at]%5), ok)
			} else if i%2 == 0 {
				answers(t, "Drop", right.Drop(list[pick[at]], pick[at]%5), ok)
				answers(t, "Add again", right.Add(list[pick[at]], pick[at]%5), ok)
			}
		}
		same(t, left, w, names...)
		same(t, right, w, names...)
		if is, want := weight(right), weight(left); is != want {
			t.Errorf("%d things are kept, where the pairs need %d", is, want)
		}
	}
}

// What was dropped leaves nothing behind, however often.
func TestP9_2_NothingIsLeft(t *testing.T) {
	x := trie.New()
	for i := range 2000 {
		p := fmt.Sprintf("w%d.*.b%d.#", i, i)
		answers(t, "Add", x.Add(p, i), ok)
		answers(t, "Drop", x.Drop(p, i), ok)
	}
	same(t, x, nil, "a", "w1.a.b1")
	if weight(x) != weight(trie.New()) {
		t.Error("what was dropped left something behind")
	}
	full, w := filled(t)
	for _, p := range slices.Clone(w) {
		answers(t, "Drop", full.Drop(p.Pattern, p.Id), w.drop(p.Pattern, p.Id))
		same(t, full, w, "a", "b", "a.b", "c.b")
	}
	if weight(full) != weight(trie.New()) {
		t.Error("64 that were dropped left something behind")
	}
}

// What is written into answers, and into the room behind them, changes no later answer.
func TestP9_3_AnswersAreNewMemory(t *testing.T) {
	x, w := filled(t)
	names := []string{"a", "b", "c", "a.b", "c.b", "a.b.c"}
	for range 2 {
		for _, name := range names {
			ids := x.Find(name)
			before := x.Find(name)
			for i := range ids[:cap(ids)] {
				ids[:cap(ids)][i] = -99
			}
			if !slices.Equal(before, w.find(name)) {
				t.Errorf("two answers of Find(%q) share memory", name)
			}
			_ = append(before[:0], 7, 8, 9)
			same(t, x, w, names...)
		}
		list, before := x.All(), x.All()
		for i := range list[:cap(list)] {
			list[:cap(list)][i] = trie.Pair{Pattern: "z", Id: -99}
		}
		if !slices.Equal(before, w.all()) {
			t.Error("two answers of All share memory")
		}
		same(t, x, w, names...)
	}
	// An answer stays as it is, whatever is added and dropped behind it.
	ids, list := x.Find("a.b"), x.All()
	was, were := slices.Clone(ids), slices.Clone(list)
	for _, p := range slices.Clone(w) {
		x.Drop(p.Pattern, p.Id)
		x.Add(p.Pattern, p.Id+100)
	}
	if !slices.Equal(ids, was) || !slices.Equal(list, were) {
		t.Error("an answer was changed")
	}
}

// One pattern alone, of one number: what is found is still not what is held.
func TestP9_3_OneNumberAlone(t *testing.T) {
	for _, p := range []string{"a", "*", "#", "a.#", "*.#"} {
		x, w := with(t, trie.Pair{Pattern: p, Id: 5}, trie.Pair{Pattern: p, Id: 9})
		ids := x.Find("a")
		ids[0], ids[1] = 77, 78
		same(t, x, w, "a")
	}
}

// A text cut from bytes of the caller's, which are written over behind the call.
func TestP9_3_WhatIsHandedIn(t *testing.T) {
	x := trie.New()
	b := []byte("a.b")
	answers(t, "Add", x.Add(string(b), 1), ok)
	b[0] = 'z'
	same(t, x, twin{{Pattern: "a.b", Id: 1}}, "a.b", "z.b")
}

func TestP9_3_TwoTries(t *testing.T) {
	x, w := filled(t)
	y, v := with(t, trie.Pair{Pattern: "a", Id: 1000}, trie.Pair{Pattern: "#", Id: 0})
	names := []string{"a", "b", "a.b"}
	same(t, x, w, names...)
	same(t, y, v, names...)
	answers(t, "Drop from the one", y.Drop("#", 0), v.drop("#", 0))
	answers(t, "Add to the one", y.Add("a.b", 0), v.add("a.b", 0))
	same(t, x, w, names...)
	same(t, y, v, names...)
	for _, p := range slices.Clone(w) {
		answers(t, "Drop from the other", x.Drop(p.Pattern, p.Id), w.drop(p.Pattern, p.Id))
	}
	same(t, x, nil, names...)
	same(t, y, v, names...)
	if trie.New() == trie.New() {
		t.Error("New answers one trie twice")
	}
	same(t, trie.New(), nil, names...)
}
