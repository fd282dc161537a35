package header_test

import (
	"bytes"
	"slices"
	"testing"

	"waybill/api"
	"waybill/header"
)

// TestR3Split: what is told shares nothing with the content, which stays as it is.
func TestR3Split(t *testing.T) {
	const s = "A: x\r\n y\r\nReceived:z\r\nC:\r\n\r\nB: w\r\n"
	data := []byte(s)
	want, _, _ := header.Split([]byte(s))
	l, n, e := header.Split(data)
	if string(data) != s {
		t.Errorf("%q was turned into %q", s, data)
	}
	clear(data)
	if len(l) != 3 || n != 28 || e != api.OK || !slices.Equal(l, want) {
		t.Errorf("%+v %d %v, not %+v", l, n, e, want)
	}
	other, _, _ := header.Split([]byte(s))
	clear(l)
	_ = append(l[:0], field("X", "Y", 1, 2))
	if !slices.Equal(other, want) {
		t.Error("two lists share what is in them")
	}
}

func TestR3Texts(t *testing.T) {
	for _, s := range []string{"ab", " ab ", "a\r\n b", "a b"} {
		text, b := lent(s)
		unfolded, folded := header.Unfold(text), header.Fold(text, 0)
		first, second := header.Unfold(s), header.Fold(s, 0)
		if string(b) != s {
			t.Errorf("%q was turned into %q", s, b)
		}
		clear(b)
		if unfolded != first || folded != second {
			t.Errorf("%q %q, not %q %q", unfolded, folded, first, second)
		}
	}
}

func TestR3Write(t *testing.T) {
	name, n := lent("To")
	body, b := lent("a b")
	spare := make([]byte, 6, 100)
	copy(spare, "C: d\r\n")
	full := bytes.Clone(spare[:cap(spare)])
	written, _ := header.Write(name, body)
	added, _ := header.Add(spare, name, body)
	if string(n) != "To" || string(b) != "a b" || !bytes.Equal(spare[:cap(spare)], full) {
		t.Errorf("%q %q %q", n, b, spare[:cap(spare)])
	}
	clear(n)
	clear(b)
	clear(spare[:cap(spare)])
	if string(written) != "To: a b\r\n" || string(added) != "To: a b\r\nC: d\r\n" {
		t.Errorf("%q %q", written, added)
	}
	clear(added)
	clear(written)
	writes(t, "To", "a b", "To: a b\r\n")
}

func TestR3Find(t *testing.T) {
	name, n := lent("To")
	body, b := lent(" a")
	asked, a := lent("TO")
	l := []api.Field{field("A", "", 0, 4), field(name, body, 4, 11)}
	f, is := header.Find(l, asked)
	if l[0] != field("A", "", 0, 4) || l[1] != field("To", " a", 4, 11) || string(a) != "TO" {
		t.Errorf("%+v %q", l, a)
	}
	clear(n)
	clear(b)
	clear(a)
	clear(l)
	if !is || f != field("To", " a", 4, 11) {
		t.Errorf("%+v %v", f, is)
	}
}

// TestR2None: nil and empty are the same.
func TestR2None(t *testing.T) {
	for _, none := range [][]byte{nil, {}, make([]byte, 0, 10)} {
		if l, n, e := header.Split(none); len(l) != 0 || n != 0 || e != api.OK {
			t.Error(l, n, e)
		}
		if b, e := header.Add(none, "A", ""); string(b) != "A: \r\n" || e != api.OK {
			t.Errorf("%q %v", b, e)
		}
		if b, e := header.Add(none, "", ""); len(b) != 0 || e != api.ErrHeaderForm {
			t.Errorf("%q %v", b, e)
		}
	}
}
