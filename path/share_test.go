package path_test

import (
	"slices"
	"testing"
	"unsafe"

	"waybill/api"
	"waybill/path"
)

// lent is a text whose bytes can be turned behind a call's back.
func lent(s string) (string, []byte) {
	b := []byte(s)
	return unsafe.String(&b[0], len(b)), b
}

// TestR3Texts: what is told shares nothing with what was handed in, which stays as it is.
func TestR3Texts(t *testing.T) {
	for s, want := range map[string]api.Path{"<a.b@example.org>": at("a.b", "example.org"), `<"a b"@c>`: at("a b", "c"), "<A@B>": at("A", "b"), "<a@[10.0.0.1]>": atLiteral("a", "10.0.0.1"), "<a@[IPv6:::1]>": atLiteral("a", "::1"), "<postmaster>": at("postmaster", "")} {
		text, b := lent(s)
		p, _, _ := path.Parse(text)
		box, _ := path.Mailbox(text[1 : len(text)-1])
		if string(b) != s {
			t.Errorf("%s was turned into %s", s, b)
		}
		clear(b)
		if p != want || box != want {
			t.Errorf("%s: %+v and %+v", s, p, box)
		}
	}
	for s, want := range map[string]string{"example.org": "example.org", "A.b": "a.b", "[10.0.0.1]": "10.0.0.1", "[IPv6:::1]": "::1"} {
		text, b := lent(s)
		d, _, _ := path.Domain(text)
		if clear(b); d != want {
			t.Errorf("%s: %s", s, d)
		}
	}
}

func TestR3Shown(t *testing.T) {
	for _, s := range []string{"a.b", "a b"} {
		local, b := lent(s)
		domain, c := lent("c.d")
		p := at(local, domain)
		form, _ := path.Show(p)
		angle, _ := path.Angle(p)
		if string(b) != s || string(c) != "c.d" {
			t.Errorf("%s@c.d was turned into %s@%s", s, b, c)
		}
		want, _ := path.Show(at(s, "c.d"))
		clear(b)
		clear(c)
		if form != want || angle != "<"+want+">" {
			t.Errorf("%s and %s, not %s", form, angle, want)
		}
	}
	local, b := lent("postmaster")
	form, _ := path.Show(at(local, ""))
	if clear(b); form != "postmaster" {
		t.Errorf("%q", form)
	}
}

func TestR3Params(t *testing.T) {
	const s = " A=1 b C=x"
	want := []api.Param{{Name: "A", Value: "1", Has: true}, {Name: "B"}, {Name: "C", Value: "x", Has: true}}
	text, b := lent(s)
	l, _ := path.Params(text)
	if string(b) != s {
		t.Errorf("%s was turned into %s", s, b)
	}
	if clear(b); !slices.Equal(l, want) {
		t.Errorf("%+v", l)
	}
	other, _ := path.Params(s)
	for i := range l {
		l[i] = api.Param{Name: "X", Value: "x"}
	}
	_ = append(l[:0], api.Param{Name: "Y"})
	if !slices.Equal(other, want) {
		t.Error("two lists share what is in them")
	}
	params(t, s, want...)
}
