package topic_test

import (
	"fmt"
	"math/rand"
	"regexp"
	"strings"
	"testing"

	"trivet/api"
	"trivet/topic"
)

// The exact signatures: the test isn't built if one is another.
var (
	_ func(string) bool                      = topic.Good
	_ func(string) bool                      = topic.Pattern
	_ func(string, string) bool              = topic.Match
	_ func(string, string) bool              = topic.Covers
	_ func(string) (string, api.Errno)       = topic.Slashes
	_ func(string) (string, api.Errno)       = topic.Dots
	_ func(bool, string) string              = topic.Place
	_ func(string) (bool, string, api.Errno) = topic.Find
)

// The chapter's number of ErrTopic, not the program's.
const errTopic = api.Errno(30)

// The twins below tell the chapter's rules by other means than the program: by regular expressions, and by recursion.

const word = `[abcdefghijklmnopqrstuvwxyz0123456789_-]{1,16}`

var (
	aTopic   = regexp.MustCompile(`\A` + word + `(\.` + word + `){0,7}\z`)
	aPattern = regexp.MustCompile(`\A(((` + word + `|\*)\.){0,7}(` + word + `|\*|#))\z`)
	aName    = regexp.MustCompile(`\A` + word + `\z`)
	aFilter  = regexp.MustCompile(`\A(((` + word + `|\+)/){0,7}(` + word + `|\+|#))\z`)
)

func twinGood(s string) bool    { return len(s) < 65 && aTopic.MatchString(s) }
func twinPattern(s string) bool { return len(s) < 65 && aPattern.MatchString(s) }

// twinMatch: the pattern is made a regular expression of topics.
func twinMatch(p, s string) bool {
	if !twinPattern(p) || !twinGood(s) {
		return false
	}
	if p == "#" {
		return true
	}
	p, open := strings.CutSuffix(p, ".#")
	form := strings.ReplaceAll(regexp.QuoteMeta(p), `\*`, `[^.]+`)
	if open {
		form += `(\..+)?`
	}
	return regexp.MustCompile(`\A` + form + `\z`).MatchString(s)
}

// twinCovers: by the first words of both, then by what is behind them.
func twinCovers(wide, narrow string) bool {
	return twinPattern(wide) && twinPattern(narrow) && twinBehind(wide+".", narrow+".")
}

func twinBehind(wide, narrow string) bool {
	if wide == "" || narrow == "" || wide == "#." {
		return wide == "#." || wide == narrow
	}
	w, wide, _ := strings.Cut(wide, ".")
	n, narrow, _ := strings.Cut(narrow, ".")
	return n != "#" && (w == "*" || w == n) && twinBehind(wide, narrow)
}

func twinDots(s string) (string, api.Errno) {
	if len(s) > 64 || !aFilter.MatchString(s) {
		return "", errTopic
	}
	return strings.ReplaceAll(strings.ReplaceAll(s, "/", "."), "+", "*"), 0
}

func twinSlashes(s string) (string, api.Errno) {
	if !twinPattern(s) {
		return "", errTopic
	}
	return strings.ReplaceAll(strings.ReplaceAll(s, ".", "/"), "*", "+"), 0
}

func twinFind(s string) (bool, string, api.Errno) {
	if len(s) >= 7 && s[:7] == "/queue/" && aName.MatchString(s[7:]) {
		return true, s[7:], 0
	}
	if len(s) >= 7 && s[:7] == "/topic/" && twinPattern(s[7:]) {
		return false, s[7:], 0
	}
	return false, "", errTopic
}

// check: what each call answers of one text, against the twins.
func check(t *testing.T, s string) {
	t.Helper()
	if is, want := topic.Good(s), twinGood(s); is != want {
		t.Errorf("Good(%q) is %v", s, is)
	}
	if is, want := topic.Pattern(s), twinPattern(s); is != want {
		t.Errorf("Pattern(%q) is %v", s, is)
	}
	out, err := topic.Slashes(s)
	if want, no := twinSlashes(s); out != want || err != no {
		t.Errorf("Slashes(%q) is %q, %d, not %q, %d", s, out, err, want, no)
	}
	out, err = topic.Dots(s)
	if want, no := twinDots(s); out != want || err != no {
		t.Errorf("Dots(%q) is %q, %d, not %q, %d", s, out, err, want, no)
	}
	for _, s := range []string{s, "/queue/" + s, "/topic/" + s} {
		queue, out, err := topic.Find(s)
		if is, want, no := twinFind(s); queue != is || out != want || err != no {
			t.Errorf("Find(%q) is %v, %q, %d, not %v, %q, %d", s, queue, out, err, is, want, no)
		}
	}
	if a, b := topic.Place(true, s), topic.Place(false, s); a != "/queue/"+s || b != "/topic/"+s {
		t.Errorf("Place of %q is %q, %q", s, a, b)
	}
}

// checkTwo: what the calls of two texts answer, against the twins.
func checkTwo(t *testing.T, a, b string) {
	t.Helper()
	if is, want := topic.Match(a, b), twinMatch(a, b); is != want {
		t.Errorf("Match(%q, %q) is %v", a, b, is)
	}
	if is, want := topic.Covers(a, b), twinCovers(a, b); is != want {
		t.Errorf("Covers(%q, %q) is %v", a, b, is)
	}
}

// long: so many bytes that may stand in a word.
func long(n int) string { return strings.Repeat("z", n) }

// 64 bytes in four words, and one byte more.
var (
	full = long(16) + "." + long(16) + "." + long(16) + "." + long(13)
	over = full + "z"
)

// What is a topic, what is a pattern and no topic, and what is neither: told by hand.
var (
	topics = []string{
		"a", "z", "0", "9", "-", "_", "a.b", "-.-", "_._", "a-b_c.0-9", long(16), "a." + long(16), long(16) + ".a",
		"a.b.c.d.e.f.g", "a.b.c.d.e.f.g.h", full, strings.Repeat("1234567.", 7) + "8", strings.Repeat("1234567.", 7) + "12345678",
	}
	patterns = []string{
		"*", "#", "*.*", "*.#", "a.*", "*.a", "a.#", "a.*.b", "a.*.#", "*.*.*.*.*.*.*.*", "*.*.*.*.*.*.*.#", "a.b.c.d.e.f.g.#", "a.b.c.d.e.f.g.*",
		"*." + long(16), long(16) + ".#", long(16) + "." + long(16) + "." + long(16) + "." + long(11) + ".#", "*." + long(16) + "." + long(16) + "." + long(16) + "." + long(11),
	}
	neither = []string{
		"", ".", "..", ".a", "a.", "a..b", "..a", "a..", ".#", "#.", ".*", "*.", "*..#", "a.b.",
		long(17), "a." + long(17), long(17) + ".a", "a." + long(17) + ".b", long(17) + ".#",
		"a.b.c.d.e.f.g.h.i", "a.b.c.d.e.f.g.h.", ".a.b.c.d.e.f.g.h", "*.*.*.*.*.*.*.*.*", "a.b.c.d.e.f.g.h.#", "a.b.c.d.e.f.g.h.*", ".......", "........",
		over, strings.Repeat("1234567.", 7) + "123456789", "*." + long(16) + "." + long(16) + "." + long(16) + "." + long(12), long(16) + "." + long(16) + "." + long(16) + "." + long(12) + ".#",
		"**", "##", "*#", "#*", "a*", "*a", "a#", "#a", "a.b*", "a.*b", "a.b#", "a.#b", "a*b", "a#b",
		"#.a", "#.#", "#.*", "a.#.b", "a.#.#", "a.#.*", "#.a.#", "*.#.*",
		"A", "Z", "a.B", "a b", " a", "a ", "a\n", "\na", "a\x00", "a/b", "a.b/c", "/", "+", "a.+", "a/+", "ä", "a.é", "ａ", "a\xff", "\xffa", "\xef\xbf\xbd", "a:b", "a,b", "a;b", "a@b", "`", "{", "[", "^",
	}
)

// all: the three lists as one.
func all() []string {
	out := append([]string{}, topics...)
	out = append(out, patterns...)
	return append(out, neither...)
}

func TestP8_1_GoodAndPattern(t *testing.T) {
	for _, c := range []struct {
		list          []string
		good, pattern bool
	}{{topics, true, true}, {patterns, false, true}, {neither, false, false}} {
		for _, s := range c.list {
			if is := topic.Good(s); is != c.good {
				t.Errorf("Good(%q) is %v", s, is)
			}
			if is := topic.Pattern(s); is != c.pattern {
				t.Errorf("Pattern(%q) is %v", s, is)
			}
			check(t, s)
		}
	}
	if len(full) != 64 || len(over) != 65 {
		t.Error("the lists don't stand at the edge")
	}
}

// Each byte, alone, at each end of a word, and as a word among others.
func TestP8_1_EachByte(t *testing.T) {
	const may = "abcdefghijklmnopqrstuvwxyz0123456789-_"
	for c := 0; c < 256; c++ {
		s := string([]byte{byte(c)})
		in := strings.Contains(may, s)
		if topic.Good(s) != in || topic.Pattern(s) != (in || s == "*" || s == "#") {
			t.Errorf("the byte %d alone", c)
		}
		for _, form := range []string{"a%sb", "%sb", "a%s", "a.b%sc", "a.%sb", "x." + long(15) + "%s"} {
			text := fmt.Sprintf(form, s)
			dotted := s == "." && form != "%sb" && form != "a%s" && form != "a.%sb" && !strings.HasPrefix(form, "x.")
			if topic.Good(text) != (in || dotted) || topic.Pattern(text) != (in || dotted) {
				t.Errorf("the byte %d in %q", c, text)
			}
		}
		for _, form := range []string{"%s", "a.%s", "%s.a", "a.%s.b", "a%sb", "a/%s", "%s/a", "a/%s/b"} {
			check(t, fmt.Sprintf(form, s))
		}
	}
}

// Words and topics of all lengths around the edges.
func TestP8_1_Lengths(t *testing.T) {
	for n := 0; n <= 40; n++ {
		in := 1 <= n && n <= 16
		for _, c := range []struct {
			text string
			is   bool
		}{{long(n), in}, {"a." + long(n), in}, {long(n) + ".a", in}, {"a." + long(n) + ".b", in}} {
			if topic.Good(c.text) != c.is || topic.Pattern(c.text) != c.is {
				t.Errorf("a word of %d bytes in %q", n, c.text)
			}
		}
		words := strings.Repeat("a.", n)
		if n > 0 && topic.Good(words[:2*n-1]) != (n <= 8) {
			t.Errorf("%d words", n)
		}
		if topic.Pattern(words+"#") != (n <= 7) || topic.Pattern(words+"*") != (n <= 7) || topic.Good(words) {
			t.Errorf("%d words and a mark", n)
		}
	}
	for n := 49; n <= 80; n++ { // five words at most: none of them is too long
		s := strings.Repeat("zzzzzzzzzzzzzzz.", 5)[:n]
		s = strings.TrimSuffix(s, ".") + strings.Repeat("z", n-len(strings.TrimSuffix(s, ".")))
		if len(s) != n || topic.Good(s) != (n <= 64) || topic.Pattern(s) != (n <= 64) {
			t.Errorf("%d bytes: %q", n, s)
		}
		check(t, s)
		check(t, strings.ReplaceAll(s, ".", "/"))
	}
}

func TestP8_1_Match(t *testing.T) {
	for _, c := range []struct {
		pattern, topic string
		is             bool
	}{
		{"a.*", "a.b", true}, {"a.#", "a", true}, {"#", "x.y", true}, {"a.*", "a", false},
		{"a.#", "a.b", true}, {"a.#", "a.b.c", true}, {"a.#", "b", false}, {"a.#", "ab", false}, {"a.#", "b.a", false},
		{"#", "a", true}, {"#", "a.b.c.d.e.f.g.h", true}, {"#", full, true}, {"#", "", false}, {"#", over, false}, {"#", "a.b.c.d.e.f.g.h.i", false}, {"#", "A", false},
		{"#", "#", false}, {"#", "*", false}, {"*", "*", false}, {"a.*", "a.*", false}, {"a.#", "a.#", false}, {"a.#", "a.", false},
		{"*", "a", true}, {"*", long(16), true}, {"*", long(17), false}, {"*", "a.b", false}, {"*", "", false}, {"*.*", "a", false}, {"*.*", "a.b", true}, {"*.*", "a.b.c", false},
		{"*.b", "a.b", true}, {"*.b", "a.c", false}, {"a.*.c", "a.b.c", true}, {"a.*.c", "a.c", false}, {"a.*.c", "a.b.b.c", false},
		{"a", "a", true}, {"a", "b", false}, {"a", "aa", false}, {"aa", "a", false}, {"a", "a.b", false}, {"a.b", "a", false}, {"a.b", "a.b", true}, {"a.b", "b.a", false}, {"a.b", "a-b", false},
		{"a.b.#", "a.b", true}, {"a.b.#", "a.b.c", true}, {"a.b.#", "a", false}, {"*.#", "a", true}, {"*.*.#", "a", false}, {"*.*.#", "a.b", true}, {"*.*.#", "a.b.c.d", true},
		{"a.b.c.d.e.f.g.#", "a.b.c.d.e.f.g", true}, {"a.b.c.d.e.f.g.#", "a.b.c.d.e.f.g.h", true}, {"a.b.c.d.e.f.g.#", "a.b.c.d.e.f", false},
		{"a.b.c.d.e.f.g.h.#", "a.b.c.d.e.f.g.h", false}, {"*.*.*.*.*.*.*.*", "a.b.c.d.e.f.g.h", true}, {"*.*.*.*.*.*.*.*", "a.b.c.d.e.f.g", false},
		{"a.#.b", "a.b", false}, {"#.a", "a", false}, {"A", "A", false}, {"", "", false}, {"", "a", false}, {".", ".", false}, {over, over, false}, {full, full, true}, {"a..b", "a..b", false}, {"a*", "ab", false}, {"a#", "ab", false}, {"a/b", "a/b", false},
		{"a.b", "a.*", false}, {"a", "*", false}, {"a", "#", false},
	} {
		if is := topic.Match(c.pattern, c.topic); is != c.is {
			t.Errorf("Match(%q, %q) is %v", c.pattern, c.topic, is)
		}
	}
}

func TestP8_1_Covers(t *testing.T) {
	for _, c := range []struct {
		wide, narrow string
		is           bool
	}{
		{"#", "#", true}, {"#", "*", true}, {"#", "a", true}, {"#", "a.*.#", true}, {"#", "a.b.c.d.e.f.g.h", true}, {"#", full, true},
		{"*", "#", false}, {"*", "*", true}, {"*", "a", true}, {"*", "a.b", false}, {"*", "*.*", false}, {"*", "*.#", false},
		{"a", "#", false}, {"a", "*", false}, {"a", "a", true}, {"a", "b", false}, {"a", "a.b", false}, {"a", "a.#", false},
		{"a.#", "a", true}, {"a.#", "a.*", true}, {"a.#", "a.#", true}, {"a.#", "a.b.c", true}, {"a.#", "a.*.#", true}, {"a.#", "#", false}, {"a.#", "*", false}, {"a.#", "b", false}, {"a.#", "*.b", false},
		{"a.*", "a", false}, {"a.*", "a.b", true}, {"a.*", "a.*", true}, {"a.*", "a.#", false}, {"a.*", "a.b.c", false}, {"a.b", "a.*", false}, {"*.b", "a.b", true}, {"*.b", "a.*", false},
		{"*.#", "#", false}, {"*.#", "*", true}, {"*.#", "a", true}, {"*.#", "a.#", true}, {"*.*.#", "*.#", false}, {"*.*.#", "a", false}, {"*.*.#", "a.b", true}, {"a.b.#", "a.#", false}, {"a.b.#", "a", false}, {"a.b.#", "a.b", true},
		{"a.*.c", "a.b.c", true}, {"a.*.c", "a.b.*", false}, {"a.*.c", "a.*.c", true}, {"a.b.c", "a.b", false}, {"a.b", "a.b.c", false},
		{"*.*.*.*.*.*.*.*", "*.*.*.*.*.*.*.#", false}, {"*.*.*.*.*.*.*.#", "*.*.*.*.*.*.*.*", true}, {"*.*.*.*.*.*.*.#", "*.*.*.*.*.*.*", true}, {"*.*.*.*.*.*.*.#", "*.*.*.*.*.*", false},
		{"", "", false}, {"#", "", false}, {"", "#", false}, {"#", "A", false}, {"A", "A", false}, {"#", "#.a", false}, {"#.a", "#.a", false}, {"a.#.b", "a.b", false}, {"#", "a..b", false}, {"#", over, false}, {over, over, false}, {"#", "a.b.c.d.e.f.g.h.i", false}, {"#", "a*", false}, {"*", "+", false}, {"#", long(17), false}, {long(17), long(17), false},
	} {
		if is := topic.Covers(c.wide, c.narrow); is != c.is {
			t.Errorf("Covers(%q, %q) is %v", c.wide, c.narrow, is)
		}
	}
}

// Each text of the lists by each: what is no topic and no pattern has nothing, and is had by none.
func TestP8_1_EachByEach(t *testing.T) {
	for _, a := range all() {
		for _, b := range all() {
			checkTwo(t, a, b)
		}
	}
	for _, bad := range neither {
		for _, s := range all() {
			if topic.Match(bad, s) || topic.Match(s, bad) || topic.Covers(bad, s) || topic.Covers(s, bad) {
				t.Errorf("%q has %q, or is had by it", bad, s)
			}
		}
	}
	for _, s := range patterns {
		for _, p := range all() {
			if topic.Match(p, s) {
				t.Errorf("the pattern %q is taken for a topic of %q's", s, p)
			}
		}
	}
}

func TestP8_1_Slashes(t *testing.T) {
	for _, c := range []struct{ in, out string }{
		{"a.*.#", "a/+/#"}, {"a", "a"}, {"a.b", "a/b"}, {"*", "+"}, {"#", "#"}, {"*.*", "+/+"}, {"a-b._", "a-b/_"}, {full, strings.ReplaceAll(full, ".", "/")}, {"*.*.*.*.*.*.*.#", "+/+/+/+/+/+/+/#"},
	} {
		if out, err := topic.Slashes(c.in); out != c.out || err != api.OK {
			t.Errorf("Slashes(%q) is %q, %d", c.in, out, err)
		}
	}
	for _, s := range append([]string{"a/b", "+", "a/+/#"}, neither...) {
		if out, err := topic.Slashes(s); out != "" || err != errTopic {
			t.Errorf("Slashes(%q) is %q, %d", s, out, err)
		}
	}
}

func TestP8_1_Dots(t *testing.T) {
	for _, c := range []struct{ in, out string }{
		{"a/+/#", "a.*.#"}, {"a", "a"}, {"a/b", "a.b"}, {"+", "*"}, {"#", "#"}, {"+/+", "*.*"}, {"-/_", "-._"}, {strings.ReplaceAll(full, ".", "/"), full}, {"+/+/+/+/+/+/+/#", "*.*.*.*.*.*.*.#"},
	} {
		if out, err := topic.Dots(c.in); out != c.out || err != api.OK {
			t.Errorf("Dots(%q) is %q, %d", c.in, out, err)
		}
	}
	for _, s := range []string{
		"a/b.c", "a//b", "#/a", "", ".", "a.b", "a.", ".a", "*", "a/*", "*/a", "a*", "/", "//", "/a", "a/", "a/b/", "+/", "/+", "/#", "#/",
		"a+", "+a", "a/b+", "a/+b", "++", "+#", "#+", "##", "a#", "#a", "#/#", "#/+", "a/#/b", "a/#/#", "A", "a/B", "a b", "a\xff", "\xff", "ä", "a/\xef\xbf\xbd", "\x00",
		"a/b/c/d/e/f/g/h/i", "+/+/+/+/+/+/+/+/+", "a/b/c/d/e/f/g/h/#", strings.ReplaceAll(over, ".", "/"), long(17), "a/" + long(17), "a.+", "a.#", "$sys",
	} {
		if out, err := topic.Dots(s); out != "" || err != errTopic {
			t.Errorf("Dots(%q) is %q, %d", s, out, err)
		}
		check(t, s)
	}
}

func TestP8_1_Find(t *testing.T) {
	for _, c := range []struct {
		in    string
		queue bool
		out   string
	}{
		{"/queue/q1", true, "q1"}, {"/queue/a", true, "a"}, {"/queue/-", true, "-"}, {"/queue/_0", true, "_0"}, {"/queue/queue", true, "queue"}, {"/queue/topic", true, "topic"}, {"/queue/" + long(16), true, long(16)},
		{"/topic/a", false, "a"}, {"/topic/a.b", false, "a.b"}, {"/topic/a.#", false, "a.#"}, {"/topic/#", false, "#"}, {"/topic/*", false, "*"}, {"/topic/topic", false, "topic"}, {"/topic/queue", false, "queue"}, {"/topic/" + full, false, full}, {"/topic/a.b.c.d.e.f.g.h", false, "a.b.c.d.e.f.g.h"},
	} {
		if queue, out, err := topic.Find(c.in); queue != c.queue || out != c.out || err != api.OK {
			t.Errorf("Find(%q) is %v, %q, %d", c.in, queue, out, err)
		}
	}
	wrong := []string{
		"", "/", "a", "q1", "a.b", "queue/q1", "topic/a", "/queue", "/topic", "/queue/", "/topic/", "/queueq1", "/topica", "/other/a", "/exchange/a", "//queue/a", "//topic/a", " /queue/a", "/queue/a ", "/topic/a ", "/queue/ a", "/queues/a", "/topics/a",
		"/QUEUE/a", "/TOPIC/a", "/Queue/a", "/Topic/a", "/queue/Q", "/topic/A", "/queue/aB", "/topic/a.B", "/queue//a", "/topic//a", "/queue/a/", "/topic/a/", "/queue/a/b", "/topic/a/b",
		"/queue/a.b", "/queue/.", "/queue/*", "/queue/#", "/queue/a.*", "/queue/" + long(17), "/queue/a\n", "/queue/ä", "/queue/\xff",
		"/topic/.", "/topic/a.", "/topic/.a", "/topic/a..b", "/topic/#.a", "/topic/a*", "/topic/+", "/topic/" + over, "/topic/" + long(17), "/topic/a.b.c.d.e.f.g.h.i",
		"/queue/queue/a", "/queue//queue/a", "/topic//topic/a", "/queue//topic/a", "/topic//queue/a",
	}
	for _, s := range neither {
		wrong = append(wrong, s, "/topic/"+s, "/queue/"+s)
	}
	for _, s := range patterns {
		wrong = append(wrong, s, "/queue/"+s)
	}
	for _, s := range wrong {
		if queue, out, err := topic.Find(s); queue || out != "" || err != errTopic {
			t.Errorf("Find(%q) is %v, %q, %d", s, queue, out, err)
		}
	}
}

// Place answers whatever s is.
func TestP8_1_Place(t *testing.T) {
	for _, s := range append(all(), "/queue/", "/topic/a", "\x00\xff", strings.Repeat("é.", 5000)) {
		if out := topic.Place(true, s); out != "/queue/"+s {
			t.Errorf("Place(true, %q) is %q", s, out)
		}
		if out := topic.Place(false, s); out != "/topic/"+s {
			t.Errorf("Place(false, %q) is %q", s, out)
		}
	}
}

// Texts of the marks and letters that count, all of them up to five bytes.
func TestP8_1_AllShortTexts(t *testing.T) {
	level := []string{""}
	for n := 0; n <= 5; n++ {
		var next []string
		for _, s := range level {
			check(t, s)
			for _, c := range []string{"a", ".", "*", "#", "/", "+", "B"} {
				next = append(next, s+c)
			}
		}
		level = next
	}
}

// aText: a text put together of pieces, more or less like a pattern.
func aText(r *rand.Rand) string {
	pieces := []string{"a", "b", "*", "#", "+", "a", "b", "*", long(15), long(16), long(17), "", "A", "a*", "ü", "\xfe"}
	likely := []int{3, 5, 8, 9, 16}[r.Intn(5)]
	between := []string{".", ".", ".", "/"}[r.Intn(4)]
	var words []string
	for range 1 + r.Intn(9) {
		words = append(words, pieces[r.Intn(likely)])
	}
	if r.Intn(3) == 0 {
		words = append(words, "#")
	}
	return strings.Join(words, between)
}

func TestP8_1_RandomTexts(t *testing.T) {
	r := rand.New(rand.NewSource(8))
	last := ""
	for range 20000 {
		s := aText(r)
		check(t, s)
		checkTwo(t, s, last)
		checkTwo(t, last, s)
		checkTwo(t, s, s)
		last = s
	}
}

// Long texts are answered too: of all texts something is said.
func TestP8_1_LongTexts(t *testing.T) {
	for _, s := range []string{strings.Repeat("a", 1<<20), strings.Repeat("a.", 1<<19), strings.Repeat("a/", 1<<19), strings.Repeat(".", 1<<20), strings.Repeat("#", 1<<20), strings.Repeat("\xff", 1<<20)} {
		check(t, s)
		checkTwo(t, "#", s)
		checkTwo(t, s, s)
	}
}

// some: all patterns of up to so many words, with a word of each of these.
func some(words []string, most int) (topics, patterns []string) {
	heads := []string{""}
	for range most {
		var next []string
		for _, head := range heads {
			patterns = append(patterns, head+"#")
			for _, w := range words {
				patterns = append(patterns, head+w)
				if s := head + w; !strings.Contains(s, "*") {
					topics = append(topics, s)
				}
				next = append(next, head+w+".")
			}
		}
		heads = next
	}
	return topics, patterns
}

// Where Covers says so each topic of narrow's is one of wide's; where it doesn't there is one that isn't, but for what each topic has: a first word.
func TestP8_2_CoversHolds(t *testing.T) {
	names, _ := some([]string{"a", "b", "c"}, 4)
	_, list := some([]string{"a", "b", "*"}, 3)
	has := make(map[string][]bool)
	for _, p := range list {
		for _, s := range names {
			has[p] = append(has[p], topic.Match(p, s))
		}
	}
	told := 0
	for _, wide := range list {
		for _, narrow := range list {
			beyond := false
			for i, is := range has[narrow] {
				beyond = beyond || is && !has[wide][i]
			}
			says := topic.Covers(wide, narrow)
			if says && beyond {
				t.Errorf("%q covers %q, which has topics that it hasn't", wide, narrow)
			}
			if !says && !beyond && !(wide == "*.#" && narrow == "#") {
				t.Errorf("%q doesn't cover %q, all of whose topics it has", wide, narrow)
			}
			if says {
				told++
			}
			checkTwo(t, wide, narrow)
		}
	}
	if told < len(list) {
		t.Error("nothing was covered")
	}
}

// The same with as many words as a topic may have.
func TestP8_2_AtTheMostWords(t *testing.T) {
	r := rand.New(rand.NewSource(82))
	draw := func(from []string) []string {
		var out []string
		for range 5 + r.Intn(4) {
			out = append(out, from[r.Intn(len(from))])
		}
		return out
	}
	seen := 0
	for range 30000 {
		words := draw([]string{"a", "b"})
		narrow := append([]string{}, words...)
		for i := range narrow {
			if r.Intn(3) == 0 {
				narrow[i] = "*"
			}
		}
		wide := append([]string{}, narrow...)
		for i := range wide {
			if r.Intn(3) == 0 {
				wide[i] = []string{"*", "*", "a"}[r.Intn(3)]
			}
		}
		if r.Intn(2) == 0 {
			narrow = append(narrow[:1+r.Intn(len(narrow))], "#")
		}
		if r.Intn(2) == 0 {
			wide = append(wide[:r.Intn(len(wide))], "#")
		}
		w, n, s := strings.Join(wide, "."), strings.Join(narrow, "."), strings.Join(words, ".")
		checkTwo(t, w, n)
		checkTwo(t, w, s)
		if topic.Covers(w, n) && topic.Match(n, s) {
			seen++
			if !topic.Match(w, s) {
				t.Errorf("%q covers %q, but hasn't %q", w, n, s)
			}
		}
	}
	if seen < 1000 {
		t.Errorf("only %d were covered", seen)
	}
}

func TestP8_2_EachCoversItself(t *testing.T) {
	_, list := some([]string{"a", "b", "*"}, 5)
	for _, p := range append(append(list, topics...), patterns...) {
		if !topic.Covers(p, p) || !topic.Covers("#", p) {
			t.Errorf("%q isn't covered by itself, or by #", p)
		}
	}
	for _, s := range topics {
		if !topic.Match(s, s) || !topic.Match("#", s) {
			t.Errorf("%q isn't one of its own", s)
		}
	}
	for _, s := range neither {
		if topic.Covers(s, s) || topic.Covers("#", s) {
			t.Errorf("%q is covered, and no pattern", s)
		}
	}
}

// thereAndBack: Dots of Slashes, and Find of Place, and the other way round.
func thereAndBack(t *testing.T, s string) {
	t.Helper()
	if out, err := topic.Slashes(s); err == api.OK {
		if back, err := topic.Dots(out); back != s || err != api.OK {
			t.Errorf("Dots of Slashes of %q is %q, %d", s, back, err)
		}
	}
	if out, err := topic.Dots(s); err == api.OK {
		if back, err := topic.Slashes(out); back != s || err != api.OK {
			t.Errorf("Slashes of Dots of %q is %q, %d", s, back, err)
		}
	}
	for _, s := range []string{s, "/queue/" + s, "/topic/" + s} {
		if queue, out, err := topic.Find(s); err == api.OK {
			if back := topic.Place(queue, out); back != s {
				t.Errorf("Place of Find of %q is %q", s, back)
			}
		}
	}
	if topic.Pattern(s) {
		if queue, back, err := topic.Find(topic.Place(false, s)); queue || back != s || err != api.OK {
			t.Errorf("Find of Place of the pattern %q is %v, %q, %d", s, queue, back, err)
		}
	}
	if aName.MatchString(s) {
		if queue, back, err := topic.Find(topic.Place(true, s)); !queue || back != s || err != api.OK {
			t.Errorf("Find of Place of the queue %q is %v, %q, %d", s, queue, back, err)
		}
	}
}

func TestP8_3_ThereAndBack(t *testing.T) {
	for _, s := range all() {
		thereAndBack(t, s)
		thereAndBack(t, strings.ReplaceAll(strings.ReplaceAll(s, ".", "/"), "*", "+"))
	}
	for _, s := range append(topics, patterns...) {
		if _, err := topic.Slashes(s); err != api.OK {
			t.Errorf("Slashes of the pattern %q: %d", s, err)
		}
	}
	r := rand.New(rand.NewSource(83))
	for range 20000 {
		thereAndBack(t, aText(r))
	}
}
