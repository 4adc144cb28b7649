package sframe

import (
	"strconv"
	"strings"

	"trivet/api"
)

// reader is what is left of a frame's bytes; what can't be, and what is missing, gives the reading up.
type reader struct {
	rest string
}

// read: the frame that bytes begin with, and how many it has; ErrMore, ErrProto.
func read(s string) (f api.Sframe, size int, err api.Errno) {
	defer func() {
		switch why := recover().(type) {
		case nil:
		case api.Errno:
			err = why
		default:
			// Nobody gave this up: to answer it as an error would hide a fault of the program.
			panic(why)
		}
	}()
	r := reader{rest: s}
	f = r.frame()
	return f, len(s) - len(r.rest), api.OK
}

// frame: the frame that stands next.
func (r *reader) frame() api.Sframe {
	lines := r.head()
	insist(len(lines) > 0 && isCommand(lines[0]) && len(lines)-1 <= maxHeaders, api.ErrProto)
	// A clone, as all texts of a frame: it isn't to hold on to all that came in with it.
	f := api.Sframe{Command: strings.Clone(lines[0])}
	for _, line := range lines[1:] {
		f.Headers = append(f.Headers, header(line, isBare(f.Command)))
	}
	f.Body = r.body(f)
	return f
}

// head: the lines ahead of an empty one. None is looked at till all are there.
func (r *reader) head() []string {
	var lines []string
	for {
		line, behind, is := cutLine(r.rest)
		insist(is, api.ErrMore)
		r.rest = behind
		if line == "" {
			return lines
		}
		lines = append(lines, line)
	}
}

// header: the header that a line tells.
func header(line string, bare bool) api.Header {
	name, text, is := strings.Cut(line, ":")
	insist(is && name != "", api.ErrProto)
	if bare {
		return api.Header{Name: strings.Clone(name), Text: strings.Clone(text)}
	}
	return api.Header{Name: unmarked(name), Text: unmarked(text)}
}

// unmarked: what stands written with backslashes, without them.
func unmarked(s string) string {
	b := make([]byte, 0, len(s))
	for at := 0; at < len(s); at++ {
		c := s[at]
		if c == '\\' {
			at++
			insist(at < len(s), api.ErrProto)
			which := strings.IndexByte(letters, s[at])
			insist(which >= 0, api.ErrProto)
			c = marked[which]
		}
		b = append(b, c)
	}
	return string(b)
}

// body: what stands behind a frame's head, up to its last byte.
func (r *reader) body(f api.Sframe) string {
	if text, is := Get(f, contentLength); is {
		return r.upToLast(length(text))
	}
	size := strings.IndexByte(r.rest[:min(len(r.rest), api.MaxBody+1)], last)
	if size < 0 {
		insist(len(r.rest) <= api.MaxBody, api.ErrProto)
		panic(api.ErrMore)
	}
	return r.upToLast(size)
}

// upToLast: the next so many bytes; a frame's last one must stand behind them.
func (r *reader) upToLast(size int) string {
	insist(size < len(r.rest), api.ErrMore)
	insist(r.rest[size] == last, api.ErrProto)
	body := strings.Clone(r.rest[:size])
	r.rest = r.rest[size+1:]
	return body
}

// length: how many bytes a body has, as the header content-length says it.
func length(text string) int {
	n, err := strconv.Atoi(text)
	// Written anew: of all the ways to write a number only one is allowed.
	insist(err == nil && 0 <= n && n <= api.MaxBody && strconv.Itoa(n) == text, api.ErrProto)
	return n
}

// insist gives up if something isn't so.
func insist(so bool, err api.Errno) {
	if !so {
		panic(err)
	}
}
