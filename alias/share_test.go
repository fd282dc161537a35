package alias_test

import (
	"slices"
	"testing"

	"waybill/alias"
	"waybill/api"
)

// TestR3New: what an Alias knows hangs on what was handed in no more, which stays as it is.
func TestR3New(t *testing.T) {
	const other = "a@z \"q r\"@y, b@x\n"
	first, x := lent(given)
	second, y := lent(other)
	tables := []string{first, second}
	a, e := alias.New(tables[:2:2])
	if e != api.OK || string(x) != given || string(y) != other || !slices.Equal(tables, []string{given, other}) {
		t.Fatalf("%v %q", e, tables)
	}
	clear(x)
	clear(y)
	clear(tables)
	stands(t, a, at("a", "x"), at("b", "x"), at("c", "y"))
	stands(t, a, at("a", "z"), at("q r", "y"), at("b", "x"))
	expands(t, a, at("a", "z"), at("q r", "y"), at("d", "z"), at("c", "y"))
}

// TestR3Told: what is told shares nothing with what was asked, nor with what is told later.
func TestR3Told(t *testing.T) {
	a := made(t, given, "i@x q@y,i@x")
	for _, s := range []string{"a@x", "s@x", "q@w", "q@y", "i@x", "postmaster", "l@x", "a@[10.0.0.1]", `"a b"@w`} {
		p := box(s)
		want, isFor := a.Direct(p)
		found, e := a.Expand(p)
		want, found = slices.Clone(want), slices.Clone(found)
		local, l := lent(p.Local)
		domain, d := lent(p.Domain)
		q := api.Path{Local: local, Domain: domain, Literal: p.Literal}
		direct, is := a.Direct(q)
		expanded, code := a.Expand(q)
		if string(l) != p.Local || string(d) != p.Domain {
			t.Errorf("%s was turned into %q %q", s, l, d)
		}
		clear(l)
		clear(d)
		if is != isFor || code != e || !slices.Equal(direct, want) || !slices.Equal(expanded, found) {
			t.Errorf("%s: %s %v, %s %v", s, listed(direct), is, listed(expanded), code)
		}
		clear(direct[:cap(direct)])
		clear(expanded[:cap(expanded)])
		if again, is := a.Direct(p); is != isFor || !slices.Equal(again, want) {
			t.Errorf("Direct(%s) is %s now", s, listed(again))
		}
		if again, code := a.Expand(p); code != e || !slices.Equal(again, found) {
			t.Errorf("Expand(%s) is %s now", s, listed(again))
		}
	}
}

// TestR2None: nil and empty are the same.
func TestR2None(t *testing.T) {
	for _, none := range [][]string{nil, {}, {""}, {"", "", ""}} {
		a := made(t, none...)
		for _, p := range []api.Path{at("a", "x"), at("postmaster", ""), atLiteral("a", "10.0.0.1")} {
			standsForNone(t, a, p)
			expands(t, a, p, p)
		}
		fails(t, a, api.ErrArg, null, api.Path{})
	}
}

// TestR4Apart: several hang on one another in nothing, and what one was asked, or gave up, turns no later answer.
func TestR4Apart(t *testing.T) {
	a, b := made(t, given), made(t, "a@x q@z\nl@x a@x, l@x\n", chain(numbered(60, "k")...))
	for range 3 {
		expands(t, a, at("a", "x"), at("d", "z"), at("c", "y"))
		expands(t, b, at("a", "x"), at("q", "z"))
		fails(t, a, api.ErrAliasLoop, at("l", "x"), at("m", "x"))
		expands(t, b, at("l", "x"), at("q", "z"), at("l", "x"))
		fails(t, b, api.ErrAliasDeep, at("k0", "x"), at("k5", "x"))
		expands(t, b, at("k9", "x"), at("k59", "x"))
		expands(t, a, at("k0", "x"), at("k0", "x"))
		fails(t, a, api.ErrArg, null)
	}
}
