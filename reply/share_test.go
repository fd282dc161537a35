package reply_test

import (
	"slices"
	"testing"

	"waybill/api"
	"waybill/reply"
)

// TestR3Print: what is printed is the caller's own, and hangs on what is handed in no more.
func TestR3Print(t *testing.T) {
	lines := []string{"<<", "a", "", "b", ">>"}
	r := api.Reply{Code: 250, Lines: lines[1:4]}
	const want = "250-a\r\n250-\r\n250 b\r\n"
	first, e := reply.Print(r)
	second, f := reply.Print(r)
	if e != api.OK || f != api.OK || string(first) != want {
		t.Errorf("%q %v %v", first, e, f)
	}
	_ = append(first, "XYZ"...)
	turn(first[:cap(first)])
	if string(second) != want || !slices.Equal(lines, []string{"<<", "a", "", "b", ">>"}) {
		t.Errorf("%q %q", second, lines)
	}
	prints(t, r, want)
	lines[1] = "other"
	if string(second) != want {
		t.Errorf("%q", second)
	}
	turn(second[:cap(second)])
	prints(t, r, "250-other\r\n250-\r\n250 b\r\n")
	if !reply.Right(r) || !slices.Equal(lines, []string{"<<", "other", "", "b", ">>"}) {
		t.Errorf("%q", lines)
	}
}

// TestR3Read: what is read is the caller's own, and hangs on the bytes no more.
func TestR3Read(t *testing.T) {
	const text = "250-a\r\n250-\r\n250 b\r\n"
	b, kept := within(text)
	first, n, e := reply.Read(b)
	second, m, f := reply.Read(b)
	if e != api.OK || f != api.OK || n != len(text) || m != n || !kept() {
		t.Errorf("%d %d %v %v, %q", n, m, e, f, b)
	}
	whole := first.Lines[:cap(first.Lines)]
	for i := range whole {
		whole[i] = "other"
	}
	if !equal(second, says(250, "a", "", "b")) || !kept() {
		t.Errorf("%s %q", shown(second), b)
	}
	reads(t, second, len(text), text)
	turn(b)
	if !equal(second, says(250, "a", "", "b")) {
		t.Errorf("%s", shown(second))
	}
	if r, n, e := reply.Read(b); r.Code != 0 || len(r.Lines) != 0 || n != 0 || e == api.OK {
		t.Errorf("%s %d %v", shown(r), n, e)
	}
	turn(b)
	reads(t, second, len(text), string(b))
}

// TestR2None: nil and empty are the same.
func TestR2None(t *testing.T) {
	for _, none := range [][]byte{nil, {}, make([]byte, 0, 10), []byte("250 a\r\n")[:0]} {
		if r, n, e := reply.Read(none); r.Code != 0 || len(r.Lines) != 0 || n != 0 || e != api.ErrReplyShort {
			t.Errorf("%s %d %v", shown(r), n, e)
		}
	}
	for _, none := range [][]string{nil, {}, make([]string, 0, 10), []string{"a"}[:0]} {
		printsNot(t, api.Reply{Code: 250, Lines: none}, api.Reply{Lines: none})
	}
	tellsNot(t, "")
}
