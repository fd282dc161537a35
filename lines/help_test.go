package lines_test

import (
	"bytes"
	"fmt"
	"slices"
	"strconv"
	"strings"
	"testing"

	"waybill/api"
	"waybill/lines"
)

// told is what Next says of a line.
type told struct {
	line string
	e    api.Errno
}

func fine(line string) told { return told{line, api.OK} }
func long(line string) told { return told{line, api.ErrLineLong} }
func bare(line string) told { return told{line, api.ErrLineBare} }
func nul(line string) told  { return told{line, api.ErrLineNul} }

func reader(t *testing.T, most int) *lines.Reader {
	t.Helper()
	r, e := lines.New(most)
	if r == nil || e != api.OK {
		t.Fatalf("New(%d): %v %v", most, r, e)
	}
	return r
}

// course is a reader on its way through a stream.
type course struct {
	t          *testing.T
	r          *lines.Reader
	stream     string
	fed, taken int
	next       int // where the first line that was not taken ends
	heard      []told
}

func begin(t *testing.T, most int, stream string) *course {
	t.Helper()
	c := &course{t: t, r: reader(t, most), stream: stream}
	c.take(0)
	return c
}

func (c *course) take(size int) {
	c.taken += size
	c.next = len(c.stream) + 1
	if i := strings.IndexByte(c.stream[c.taken:], '\n'); i >= 0 {
		c.next = c.taken + i + 1
	}
}

// feed brings the next bytes of the stream, and turns what was fed behind the reader's back.
func (c *course) feed(size int) {
	c.t.Helper()
	piece := c.stream[c.fed : c.fed+size]
	b := []byte(piece)
	c.r.Feed(b)
	if string(b) != piece {
		c.t.Errorf("%s: Feed turned %s into %s", short(c.stream), short(piece), short(string(b)))
	}
	turn(b)
	c.fed += size
	c.waits()
}

func (c *course) feedRest() {
	c.t.Helper()
	c.feed(len(c.stream) - c.fed)
}

// ask calls Next as long as it tells lines, and wants it to tell one for each 10.
func (c *course) ask() {
	c.t.Helper()
	for {
		line, e, is := c.r.Next()
		if is != (c.next <= c.fed) {
			c.t.Fatalf("%s: Next behind %d bytes of %d: %v", short(c.stream), c.taken, c.fed, is)
		}
		if !is {
			if len(line) != 0 || e != api.OK {
				c.t.Errorf("%s: Next without a line: %q %v", short(c.stream), line, e)
			}
			c.waits()
			return
		}
		c.heard = append(c.heard, told{string(line), e})
		turn(line[:cap(line)])
		c.take(c.next - c.taken)
		c.waits()
	}
}

// waits wants Left to be what was fed, less what was taken.
func (c *course) waits() {
	c.t.Helper()
	if n := c.r.Left(); n != c.fed-c.taken {
		c.t.Errorf("%s: Left behind %d bytes of %d: %d", short(c.stream), c.taken, c.fed, n)
	}
}

func (c *course) ends(way string, want []told) {
	c.t.Helper()
	c.ask()
	if !slices.Equal(c.heard, want) {
		c.t.Fatalf("%s, %s: %s, not %s", short(c.stream), way, shorts(c.heard), shorts(want))
	}
}

// reads wants a stream to have just these lines, fed at once, in two pieces, and in small ones; a great stream in fewer ways.
func reads(t *testing.T, most int, stream string, want ...told) {
	t.Helper()
	whole := begin(t, most, stream)
	whole.feedRest()
	whole.ends("whole", want)
	near, steps := 20, []int{1, 2, 3, 1000}
	if len(stream) > 5000 {
		near, steps = 3, []int{1000}
	}
	for i := range stream {
		if i > near && i < len(stream)-near && max(i-most, most-i) > 2 {
			continue
		}
		for _, between := range []bool{true, false} {
			c := begin(t, most, stream)
			c.feed(i)
			if between {
				c.ask()
			}
			c.feedRest()
			c.ends(fmt.Sprint("cut at ", i, between), want)
		}
	}
	for _, step := range steps {
		for _, between := range []bool{true, false} {
			c := begin(t, most, stream)
			for c.fed < len(stream) {
				c.feed(min(step, len(stream)-c.fed))
				if between {
					c.ask()
				}
			}
			c.ends(fmt.Sprint("in pieces of ", step, between), want)
		}
	}
}

// may wants bytes to be a content, which is sent so.
func may(t *testing.T, data, sent string) {
	t.Helper()
	given := []byte(data)
	if e := lines.Content(given); e != api.OK {
		t.Errorf("Content(%s): %v", short(data), e)
	}
	b, e := lines.Stuff(given)
	if string(b) != sent || e != api.OK {
		t.Errorf("Stuff(%s): %s %v, not %s", short(data), short(string(b)), e, short(sent))
	}
	if string(given) != data {
		t.Errorf("%s was turned into %s", short(data), short(string(given)))
	}
}

// mayNot wants bytes to be no content.
func mayNot(t *testing.T, want api.Errno, data string) {
	t.Helper()
	given := []byte(data)
	if e := lines.Content(given); e != want {
		t.Errorf("Content(%s): %v, not %v", short(data), e, want)
	}
	if b, e := lines.Stuff(given); len(b) != 0 || e != want {
		t.Errorf("Stuff(%s): %s %v, not %v", short(data), short(string(b)), e, want)
	}
	if string(given) != data {
		t.Errorf("%s was turned into %s", short(data), short(string(given)))
	}
}

func dots(t *testing.T, line, want string, end bool) {
	t.Helper()
	given := []byte(line)
	b, is := lines.Dotted(given)
	if string(b) != want || is != end {
		t.Errorf("Dotted(%s): %s %v, not %s %v", short(line), short(string(b)), is, short(want), end)
	}
	if string(given) != line {
		t.Errorf("Dotted turned %s into %s", short(line), short(string(given)))
	}
}

// arrives wants the lines of what Stuff writes to be, each Dotted, the content's, and then the end.
func arrives(t *testing.T, data string, step int) {
	t.Helper()
	sent, e := lines.Stuff([]byte(data))
	if e != api.OK {
		t.Errorf("Stuff(%s): %v", short(data), e)
		return
	}
	r := reader(t, 999) // a content's line and a dot
	var came []byte
	ended := false
	for len(sent) > 0 {
		size := min(step, len(sent))
		r.Feed(sent[:size])
		sent = sent[size:]
		for {
			line, e, is := r.Next()
			if !is {
				break
			}
			if e != api.OK || ended {
				t.Errorf("%s: the line %q is %v, behind the end: %v", short(data), line, e, ended)
			}
			text, end := lines.Dotted(line)
			if end {
				ended = true
				continue
			}
			came = append(append(came, text...), "\r\n"...)
		}
	}
	if string(came) != data || !ended || r.Left() != 0 {
		t.Errorf("%s arrived as %s, its end: %v, %d bytes left", short(data), short(string(came)), ended, r.Left())
	}
}

// turn makes each byte another one.
func turn(b []byte) {
	for i := range b {
		b[i] ^= 0x5a
	}
}

// eachByte calls do with each byte as a text.
func eachByte(do func(c byte, s string)) {
	for c := range 256 {
		do(byte(c), string([]byte{byte(c)}))
	}
}

func xs(n int) string { return strings.Repeat("x", n) }

// within is a slice of a greater one, of which it tells whether something was written about it.
func within(s string) ([]byte, func() bool) {
	all := []byte("<<<<" + s + ">>>>")
	old := bytes.Clone(all)
	return all[4 : 4+len(s)], func() bool { return bytes.Equal(all, old) }
}

// short keeps what is told of a great text readable.
func short(s string) string {
	if len(s) > 120 {
		return fmt.Sprintf("%q..%q of %d bytes", s[:80], s[len(s)-20:], len(s))
	}
	return strconv.Quote(s)
}

func shorts(l []told) string {
	var b strings.Builder
	for i, x := range l {
		if i == 20 {
			fmt.Fprintf(&b, ".. of %d lines", len(l))
			break
		}
		fmt.Fprint(&b, "(", short(x.line), " ", x.e, ")")
	}
	return "[" + b.String() + "]"
}

// dice are numbers that look like chance, the same ones each time.
type dice uint64

func (d *dice) roll(n int) int {
	*d = *d*6364136223846793005 + 1442695040888963407
	return int(uint64(*d>>33) % uint64(n))
}

func (d *dice) one(l []string) string { return l[d.roll(len(l))] }

// row is some of these texts, one behind the other.
func (d *dice) row(most int, l []string) string {
	s := ""
	for range d.roll(most + 1) {
		s += d.one(l)
	}
	return s
}
