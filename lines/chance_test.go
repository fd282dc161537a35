package lines_test

import (
	"strings"
	"testing"

	"waybill/api"
	"waybill/lines"
)

// everyRow calls do with all rows of up to n of these pieces.
func everyRow(n int, pieces []string, do func(s string)) {
	var lay func(s string, n int)
	lay = func(s string, n int) {
		do(s)
		if n > 0 {
			for _, piece := range pieces {
				lay(s+piece, n-1)
			}
		}
	}
	lay("", n)
}

// TestP12_3Short: all short streams, fed at once, byte by byte, and in all cuts.
func TestP12_3Short(t *testing.T) {
	everyRow(6, []string{"a", "\r", "\n", "\x00"}, func(stream string) {
		for _, most := range []int{1, 2} {
			want, left := modelLines(stream, most)
			for cuts := range 1 << max(len(stream)-1, 0) {
				c := begin(t, most, stream)
				for i := range len(stream) {
					if i > 0 && cuts>>(i-1)&1 == 1 {
						c.feed(i - c.fed)
						c.ask()
					}
				}
				c.feedRest()
				c.ends("in a cut", want)
				if c.r.Left() != len(left) {
					t.Errorf("%q: %d left, not %q", stream, c.r.Left(), left)
				}
			}
		}
	})
}

// stream is lines by chance, for a reader of so many bytes.
func (d *dice) stream(most int) string {
	s := ""
	for range d.roll(12) {
		s += d.row(3, []string{"a", "bc", ".", " ", "\x80", "\u00e9", xs(d.roll(9)), xs(max(0, most-d.roll(4)))})
		if d.roll(5) == 0 {
			s += d.one([]string{"\r", "\x00", "\r\r", "\n", "x\x00\r"})
		}
		if d.roll(6) == 0 {
			s += d.one([]string{"\n", "\r\r\n", "", "\r", "\n\r", "\r\n\n"})
		} else {
			s += "\r\n"
		}
	}
	return s + d.one([]string{"", "", "z", "\r", "\x00", xs(most), xs(most + 1)})
}

func TestP12_3Chance(t *testing.T) {
	d := dice(123)
	codes := map[api.Errno]int{}
	for range 20000 {
		most := []int{1, 2, 4, 7, 50, 998, 999}[d.roll(7)]
		stream := d.stream(most)
		want, left := modelLines(stream, most)
		for range 3 {
			c := begin(t, most, stream)
			widest := 1 + d.roll(1+len(stream))
			asks := d.roll(4)
			for c.fed < len(stream) {
				c.feed(min(d.roll(widest+1), len(stream)-c.fed))
				if d.roll(4) < asks {
					c.ask()
				}
			}
			c.ends("by chance", want)
			if c.r.Left() != len(left) {
				t.Errorf("%s: %d left, not %s", short(stream), c.r.Left(), short(left))
			}
		}
		for _, x := range want {
			codes[x.e]++
		}
	}
	if len(codes) != 4 || codes[api.ErrLineNul] < 1000 || codes[api.ErrLineBare] < 1000 || codes[api.ErrLineLong] < 1000 || codes[api.OK] < 1000 {
		t.Error(codes)
	}
}

// TestP12_3One: Next now and then, one line or none at a time.
func TestP12_3One(t *testing.T) {
	d := dice(1231)
	for range 3000 {
		stream := d.stream(4)
		want, left := modelLines(stream, 4)
		r := reader(t, 4)
		waits, whole := 0, 0
		rest := stream
		for len(rest) > 0 || len(want) > 0 {
			if size := min(d.roll(9), len(rest)); d.roll(2) == 0 {
				r.Feed([]byte(rest[:size]))
				rest = rest[size:]
				waits += size
				whole += strings.Count(stream[len(stream)-len(rest)-size:len(stream)-len(rest)], "\n")
			}
			line, e, is := r.Next()
			if is != (whole > 0) || is && (told{string(line), e}) != want[0] || !is && (len(line) != 0 || e != api.OK) {
				t.Fatalf("%q: %q %v %v with %d lines, of %v", stream, line, e, is, whole, want)
			}
			if is {
				from := len(stream) - len(rest) - waits
				waits -= strings.IndexByte(stream[from:], '\n') + 1
				whole--
				want = want[1:]
			}
			if r.Left() != waits {
				t.Fatalf("%q: %d left, not %d", stream, r.Left(), waits)
			}
		}
		if waits != len(left) {
			t.Fatalf("%q: %d left, not %q", stream, waits, left)
		}
	}
}

// agree wants Content and Stuff to tell what the model does, and what may be sent to arrive.
func agree(t *testing.T, data string, steps ...int) {
	t.Helper()
	if e := modelContent(data); e != api.OK {
		mayNot(t, e, data)
		return
	}
	may(t, data, modelStuff(data))
	for _, step := range steps {
		arrives(t, data, step)
	}
}

// TestP12_4Short: all contents of a few pieces.
func TestP12_4Short(t *testing.T) {
	everyRow(6, []string{"a", ".", "\r", "\n", "\r\n", "\x00"}, func(data string) { agree(t, data, 1, 1000) })
	everyRow(7, []string{"a", ".", "\r\n"}, func(data string) { agree(t, data+"\r\n", 1, 2, 1000) })
	everyRow(3, []string{"a\r\n", "\r\n", "\n", "\x00", xs(998) + "\r\n", xs(999) + "\r\n", "." + xs(997) + "\r\n", xs(998)}, func(data string) { agree(t, data, 1, 7) })
}

// content is a content by chance; one of wrong is none.
func (d *dice) content(wrong int) string {
	var b strings.Builder
	for range d.roll(20) {
		b.WriteString(d.one([]string{"", "", ".", "..", "..."}))
		b.WriteString(d.row(4, []string{"a", ".", " ", "\t", "\x80", "\u00e9", "b.c", "\x7f", xs(d.roll(80))}))
		if d.roll(20) == 0 {
			b.WriteString(xs(900))
		}
		b.WriteString("\r\n")
	}
	if d.roll(wrong) > 0 {
		return b.String()
	}
	s := b.String()
	at := d.roll(len(s) + 1)
	return s[:at] + d.one([]string{"\r", "\n", "\x00", "\r\n", "x", "\n\r", xs(998), xs(999) + "\r\n"}) + s[at:]
}

func TestP12_4Chance(t *testing.T) {
	d := dice(124)
	codes := map[api.Errno]int{}
	for range 20000 {
		data := d.content(3)
		agree(t, data, 1+d.roll(30), 1+d.roll(3000))
		codes[modelContent(data)]++
	}
	if len(codes) != 4 || codes[api.OK] < 10000 || codes[api.ErrLineBare] < 1000 || codes[api.ErrLineLong] < 500 || codes[api.ErrLineNul] < 500 {
		t.Error(codes)
	}
}

// TestP12_4Great: contents as great as a message's may be, and greater ones.
func TestP12_4Great(t *testing.T) {
	for _, data := range []string{
		strings.Repeat(".\r\n", 1<<18), strings.Repeat("\r\n", 1<<19), strings.Repeat("."+xs(997)+"\r\n", 1<<11), strings.Repeat("..a\r\n\r\nb.\r\n", 1<<15),
	} {
		agree(t, data, 997, len(data))
	}
}

// TestP12_4Lines: the lines of what was sent are the content's, with a dot ahead of some.
func TestP12_4Lines(t *testing.T) {
	d := dice(1241)
	for range 3000 {
		data := d.content(3)
		if modelContent(data) != api.OK {
			continue
		}
		sent, e := lines.Stuff([]byte(data))
		was, left := modelLines(data, 998)
		are, none := modelLines(string(sent), 999)
		if e != api.OK || left != "" || none != "" || len(are) != len(was)+1 || are[len(was)] != fine(".") {
			t.Errorf("%s: %s %v", short(data), short(string(sent)), e)
			continue
		}
		for i, x := range was {
			b, end := lines.Dotted([]byte(are[i].line))
			if string(b) != x.line || are[i].e != api.OK || end {
				t.Errorf("%s: %q %v, not %q", short(data), b, end, x.line)
			}
		}
	}
}
