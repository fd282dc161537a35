package header_test

import (
	"bytes"
	"fmt"
	"slices"
	"strconv"
	"strings"
	"testing"
	"unsafe"

	"waybill/api"
	"waybill/header"
)

// part is a field without its places.
type part struct{ name, body string }

func field(name, body string, from, to int) api.Field {
	return api.Field{Name: name, Body: body, From: from, To: to}
}

func partsOf(l []api.Field) []part {
	var parts []part
	for _, f := range l {
		parts = append(parts, part{f.Name, f.Body})
	}
	return parts
}

// splits wants a content to have just these fields, and its body to begin there.
func splits(t *testing.T, data string, body int, want ...api.Field) {
	t.Helper()
	l, n, e := header.Split([]byte(data))
	if !slices.Equal(l, want) || n != body || e != api.OK {
		t.Errorf("Split(%s): %+v %d %v, not %+v %d", short(data), l, n, e, want, body)
		return
	}
	follows(t, data, l, n)
}

// hasParts wants a content to have just these fields, wherever they stand, and this body.
func hasParts(t *testing.T, data, body string, want ...part) {
	t.Helper()
	l, n, e := header.Split([]byte(data))
	if !slices.Equal(partsOf(l), want) || e != api.OK || n > len(data) || data[n:] != body {
		t.Errorf("Split(%s): %+v %d %v, not %+v and %s", short(data), l, n, e, want, short(body))
		return
	}
	follows(t, data, l, n)
}

// noFields wants a content to be body alone, from that byte on.
func noFields(t *testing.T, data string, body int) {
	t.Helper()
	splits(t, data, body)
}

// follows wants what P11.6 says of a content that was split.
func follows(t *testing.T, data string, l []api.Field, body int) {
	t.Helper()
	at := 0
	for _, f := range l {
		if f.From != at || f.To <= f.From || f.To > len(data) {
			t.Errorf("%s: %+v is not behind byte %d", short(data), f, at)
			return
		}
		text := data[f.From:f.To]
		if whole := f.Name + ":" + f.Body; text != whole+"\r\n" && (text != whole || f.To < len(data) || strings.HasSuffix(text, "\r\n")) {
			t.Errorf("%s: %+v stands there as %s", short(data), f, short(text))
		}
		at = f.To
	}
	if body < at || body > len(data) || data[at:body] != "" && data[at:body] != "\r\n" {
		t.Errorf("%s: its body begins at %d, its fields end at %d", short(data), body, at)
	}
}

func noSplit(t *testing.T, want api.Errno, data string) {
	t.Helper()
	if l, n, e := header.Split([]byte(data)); len(l) != 0 || n != 0 || e != want {
		t.Errorf("Split(%s): %d fields, %d %v, not %v", short(data), len(l), n, e, want)
	}
}

func unfolds(t *testing.T, body, want string) {
	t.Helper()
	if s := header.Unfold(body); s != want {
		t.Errorf("Unfold(%s): %s, not %s", short(body), short(s), short(want))
	}
}

func folds(t *testing.T, body string, column int, want string) {
	t.Helper()
	if s := header.Fold(body, column); s != want {
		t.Errorf("Fold(%s, %d): %s, not %s", short(body), column, short(s), short(want))
	}
}

// writes wants a field to be written so, alone and ahead of contents.
func writes(t *testing.T, name, body, want string) {
	t.Helper()
	if b, e := header.Write(name, body); string(b) != want || e != api.OK {
		t.Errorf("Write(%s, %s): %s %v, not %s", short(name), short(body), short(string(b)), e, short(want))
	}
	for _, data := range []string{"", "B: w\r\n\r\nx\r\n", "\r\nx", "no field", " c", "\x00"} {
		given := []byte(data)
		if b, e := header.Add(given, name, body); string(b) != want+data || e != api.OK {
			t.Errorf("Add(%q, %s, %s): %s %v, not %s", data, short(name), short(body), short(string(b)), e, short(want+data))
		}
		if string(given) != data {
			t.Errorf("Add turned %q into %q", data, given)
		}
	}
}

func noWrite(t *testing.T, want api.Errno, name, body string) {
	t.Helper()
	if b, e := header.Write(name, body); len(b) != 0 || e != want {
		t.Errorf("Write(%s, %s): %s %v, not %v", short(name), short(body), short(string(b)), e, want)
	}
	for _, data := range []string{"", "B: w\r\n"} {
		if b, e := header.Add([]byte(data), name, body); len(b) != 0 || e != want {
			t.Errorf("Add(%q, %s, %s): %s %v, not %v", data, short(name), short(body), short(string(b)), e, want)
		}
	}
}

func finds(t *testing.T, l []api.Field, name string, want api.Field) {
	t.Helper()
	if f, is := header.Find(l, name); !is || f != want {
		t.Errorf("Find(%q): %+v %v, not %+v", name, f, is, want)
	}
}

func findsNone(t *testing.T, l []api.Field, name string) {
	t.Helper()
	if f, is := header.Find(l, name); is || f != (api.Field{}) {
		t.Errorf("Find(%q): %+v %v", name, f, is)
	}
}

// alike tells whether two names are the same, and wants the same in the other order.
func alike(t *testing.T, a, b string) bool {
	t.Helper()
	is := header.Same(a, b)
	if header.Same(b, a) != is {
		t.Errorf("Same(%q, %q) is not Same(%q, %q)", a, b, b, a)
	}
	return is
}

// eachByte calls do with each byte as a text.
func eachByte(do func(c byte, s string)) {
	for c := range 256 {
		do(byte(c), string([]byte{byte(c)}))
	}
}

const (
	ofLetters = "abcdefghijklmnopqrstuvwxyzABCDEFGHIJKLMNOPQRSTUVWXYZ"
	ofNames   = ofLetters + "0123456789!\"#$%&'()*+,-./;<=>?@[\\]^_`{|}~"
)

func isOneOf(c byte, those string) bool { return strings.IndexByte(those, c) >= 0 }

func xs(n int) string { return strings.Repeat("x", n) }

// lent is a text whose bytes can be turned behind a call's back.
func lent(s string) (string, []byte) {
	b := bytes.Clone([]byte(s))
	return unsafe.String(&b[0], len(b)), b
}

// short keeps what is told of a great text readable.
func short(s string) string {
	if len(s) > 120 {
		return fmt.Sprintf("%q..%q of %d bytes", s[:80], s[len(s)-20:], len(s))
	}
	return strconv.Quote(s)
}

// dice are numbers that look like chance, the same ones each time.
type dice uint64

func (d *dice) roll(n int) int {
	*d = *d*6364136223846793005 + 1442695040888963407
	return int(uint64(*d>>33) % uint64(n))
}

func (d *dice) one(l []string) string { return l[d.roll(len(l))] }

// row is some of these texts, one behind the other.
func (d *dice) row(most int, l []string) string {
	s := ""
	for range d.roll(most + 1) {
		s += d.one(l)
	}
	return s
}
