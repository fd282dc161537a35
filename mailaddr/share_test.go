package mailaddr_test

import (
	"slices"
	"strings"
	"testing"
	"unsafe"

	"waybill/api"
	"waybill/mailaddr"
)

// lent is a text whose bytes can be turned behind a call's back.
func lent(s string) (string, []byte) {
	b := []byte(s)
	return unsafe.String(&b[0], len(b)), b
}

// TestR3Parse: what is told shares nothing with the body, which stays as it is.
func TestR3Parse(t *testing.T) {
	const s = `Joe Q <a.b@c.d>, N <"e f"@[10.0.0.1]>, a@b, "x" <a@[IPv6:::1]>, "a"@b`
	want, _ := mailaddr.Parse(s)
	text, b := lent(s)
	l, e := mailaddr.Parse(text)
	if string(b) != s {
		t.Errorf("%s was turned into %s", s, b)
	}
	if clear(b); len(l) != 5 || e != api.OK || !slices.Equal(l, want) {
		t.Errorf("%+v %v, not %+v", l, e, want)
	}
	other, _ := mailaddr.Parse(s)
	for i := range l {
		l[i] = addr(cd, 1, 2, "X")
	}
	_ = append(l[:0], addr(ef, 3, 4, "Y"))
	if !slices.Equal(other, want) {
		t.Error("two lists share what is in them")
	}
	parses(t, s, want...)
}

func TestR3Replace(t *testing.T) {
	for s, want := range map[string]string{"N <a@b>, a@b": `N <c@d>, "e f"@g`, " \r\n(x)": " \r\n(x)", "g:;": "g:;", "a@b,a@b": `c@d,"e f"@g`} {
		text, b := lent(s)
		local, c := lent("e f")
		domain, d := lent("g")
		paths := []api.Path{cd, at(local, domain)}
		if !strings.Contains(s, "@") {
			paths = nil
		}
		given := slices.Clone(paths)
		got, e := mailaddr.Replace(text, paths)
		if string(b) != s || string(c) != "e f" || string(d) != "g" || !slices.Equal(paths, given) {
			t.Errorf("%s, %+v was turned into %s, %+v", s, given, b, paths)
		}
		clear(b)
		clear(c)
		clear(d)
		clear(paths)
		if got != want || e != api.OK {
			t.Errorf("%q %v, not %q", got, e, want)
		}
	}
}

func TestR3List(t *testing.T) {
	for s, want := range map[string]string{"e": "e@g", "e f": `"e f"@g`} {
		local, c := lent(s)
		domain, d := lent("g")
		for n := 1; n < 3; n++ {
			paths := slices.Repeat([]api.Path{at(local, domain)}, n)
			given := slices.Clone(paths)
			got, e := mailaddr.List(paths)
			if string(c) != s || string(d) != "g" || !slices.Equal(paths, given) {
				t.Errorf("%+v was turned into %+v", given, paths)
			}
			whole := strings.Repeat(want+", ", n-1) + want
			clear(c)
			clear(d)
			clear(paths)
			if got != whole || e != api.OK {
				t.Errorf("%q %v, not %q", got, e, whole)
			}
			copy(c, s)
			copy(d, "g")
		}
	}
}

// TestR2None: nil and empty are the same.
func TestR2None(t *testing.T) {
	for _, l := range [][]api.Path{nil, {}} {
		if s, e := mailaddr.List(l); s != "" || e != api.OK {
			t.Error(s, e)
		}
		if s, e := mailaddr.Replace(",", l); s != "," || e != api.OK {
			t.Error(s, e)
		}
		noReplace(t, api.ErrArg, "a@b", l...)
	}
}
