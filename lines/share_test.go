package lines_test

import (
	"testing"

	"waybill/api"
	"waybill/lines"
)

// next is a line that a reader must have.
func next(t *testing.T, r *lines.Reader, want told) []byte {
	t.Helper()
	line, e, is := r.Next()
	if string(line) != want.line || e != want.e || !is {
		t.Errorf("%q %v %v, not %v", line, e, is, want)
	}
	return line
}

// TestR3Feed: what is fed is shared with nothing, also when it is turned later and when there is room behind it.
func TestR3Feed(t *testing.T) {
	r := reader(t, 4)
	first, keptFirst := within("ab\r\nc")
	second, keptSecond := within("d\ne")
	r.Feed(first)
	r.Feed(second)
	r.Feed(first[:0])
	r.Feed([]byte("fghi\r\n"))
	if !keptFirst() || !keptSecond() {
		t.Errorf("%q %q", first[:cap(first)], second[:cap(second)])
	}
	turn(first)
	next(t, r, fine("ab"))
	turn(second)
	if left := r.Left(); left != 10 {
		t.Error(left)
	}
	next(t, r, bare("cd"))
	turn(first)
	next(t, r, long("efgh"))
	if left := r.Left(); left != 0 {
		t.Error(left)
	}
}

// TestR3Next: a line is the caller's own, also when it is appended to and turned.
func TestR3Next(t *testing.T) {
	r := reader(t, 4)
	r.Feed([]byte("ab\r\ncd\r\nefghi\r\njk\n\r\nlm"))
	var own [][]byte
	wants := []told{fine("ab"), fine("cd"), long("efgh"), bare("jk"), fine("")}
	for i, want := range wants {
		line := next(t, r, want)
		own = append(own, append(line, "XYZXYZ"...))
		turn(line)
		turn(line[:cap(line)])
		own[i] = append(own[i][:0:0], want.line...)
	}
	r.Feed([]byte("n\r\n"))
	last := next(t, r, fine("lmn"))
	r.Feed([]byte("opqr\r\nst\r\n"))
	if string(last) != "lmn" {
		t.Errorf("%q", last)
	}
	kept := next(t, r, fine("opqr"))
	r.Feed(kept)
	turn(kept)
	next(t, r, fine("st"))
	r.Feed([]byte("\r\n"))
	next(t, r, fine("opqr"))
	for i, want := range wants {
		if string(own[i]) != want.line {
			t.Errorf("%q, not %q", own[i], want.line)
		}
	}
}

// TestR3Told: lines that were told stay as they are, whatever the reader is fed and asked.
func TestR3Told(t *testing.T) {
	r := reader(t, 4)
	var all [][]byte
	var want []string
	for i := range 200 {
		line := string(rune('a'+i%26)) + string(rune('A'+i%7))
		r.Feed([]byte(line + "\r\n" + line))
		r.Feed([]byte("\r\n"))
		all = append(all, next(t, r, fine(line)), next(t, r, fine(line)))
		want = append(want, line, line)
	}
	for i, line := range all {
		if string(line) != want[i] {
			t.Fatalf("%d: %q, not %q", i, line, want[i])
		}
		turn(line[:cap(line)])
	}
	if r.Left() != 0 {
		t.Error(r.Left())
	}
}

func TestR3Stuff(t *testing.T) {
	for _, s := range []string{"", "a\r\n", ".\r\n", ".a\r\nb\r\n", "\r\n", "a", "a\x00", xs(999) + "\r\n"} {
		data, kept := within(s)
		e := lines.Content(data)
		first, f := lines.Stuff(data)
		second, g := lines.Stuff(data)
		if !kept() {
			t.Errorf("%s was turned into %q", short(s), data[:cap(data)])
		}
		if f != e || g != e || string(first) != string(second) {
			t.Errorf("%s: %v %v %v, %q, %q", short(s), e, f, g, first, second)
		}
		turn(data)
		_ = append(first, "XYZ"...)
		turn(first[:cap(first)])
		if want := modelStuff(s); e == api.OK && string(second) != want || e != api.OK && len(second) != 0 {
			t.Errorf("%s: %q, not %q", short(s), second, want)
		}
	}
}

func TestR3Dotted(t *testing.T) {
	for _, s := range []string{"", ".", "..", ".a", "a", "a.", xs(999)} {
		line, kept := within(s)
		want, end := modelDotted(s)
		first, is := lines.Dotted(line)
		second, also := lines.Dotted(line)
		_ = append(first, "XYZ"...)
		if !kept() {
			t.Errorf("%s was turned into %q", short(s), line[:cap(line)])
		}
		turn(first[:cap(first)])
		if !kept() {
			t.Errorf("what Dotted tells of %s is shared with it", short(s))
		}
		turn(line)
		if is != end || also != end || string(second) != want {
			t.Errorf("%s: %v %v %q, not %v %q", short(s), is, also, second, end, want)
		}
	}
}

// TestR2None: nil and empty are the same.
func TestR2None(t *testing.T) {
	for _, none := range [][]byte{nil, {}, make([]byte, 0, 10)} {
		if e := lines.Content(none); e != api.OK {
			t.Error(e)
		}
		if b, e := lines.Stuff(none); string(b) != ".\r\n" || e != api.OK {
			t.Errorf("%q %v", b, e)
		}
		if b, end := lines.Dotted(none); len(b) != 0 || end {
			t.Errorf("%q %v", b, end)
		}
	}
}
