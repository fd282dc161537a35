package alias_test

import (
	"slices"
	"strings"
	"testing"

	"waybill/api"
	"waybill/path"
)

func TestP16_2Examples(t *testing.T) {
	a := made(t, given)
	stands(t, a, at("b", "x"), at("d", "z"), at("a", "x"))
	standsForNone(t, a, at("postmaster", ""))
	stands(t, a, at("a", "x"), at("b", "x"), at("c", "y"))
	stands(t, a, at("s", "x"), at("s", "x"), at("t", "x"))
	stands(t, a, at("q", "w"), at("all", "v"))
	standsForNone(t, a, at("q", "y"), at("c", "y"), at("d", "z"), at("t", "x"), at("all", "v"))
}

// wrongPaths may not be, and most of them have something in the tables that ask for all.
func wrongPaths() []api.Path {
	return []api.Path{
		{}, at("", "x"), at("a", ""), at("Postmaster", ""), at("POSTMASTER", ""), at("a", "X"), at("A", "X"), at("a", "x."), at("a", "-"), at("a", "@x"), at("a", "[10.0.0.1]"), at("a\x00", "x"), at("\x80", "x"), at("a\t", "x"), at("a\u00e9", "x"), at("a", "\u212a"), at("a", "x\n"), at("a", " x"), at("a", "x,"),
		atLiteral("a", "x"), atLiteral("a", ""), atLiteral("", "10.0.0.1"), atLiteral("a", "[10.0.0.1]"), atLiteral("a", "2001:DB8::1"), atLiteral("postmaster", ""), atLiteral("a", "10.0.0.1.1"),
		{Null: true, Local: "a", Domain: "x"}, {Null: true, Domain: "x"}, {Null: true, Local: "a"}, {Null: true, Local: "postmaster"}, {Null: true, Literal: true}, {Null: true, Local: "a", Domain: "10.0.0.1", Literal: true},
	}
}

// longPaths are too long, by one byte or by many.
func longPaths() []api.Path {
	l64 := strings.Repeat("l", 64)
	return []api.Path{at(l64+"l", "x"), at(l64[2:]+" ", "x"), at(strings.Repeat(`"`, 32), "x"), at(xs(1000), "x"), at("a", domainOf(253)), at("a", domainOf(256)), at("a", domainOf(1000)), at(l64, domainOf(190)), atLiteral(l64+"l", "10.0.0.1"), atLiteral(l64+"l", "2001:db8::1")}
}

// keysFor are the keys by which a table could have something for a mailbox.
func keysFor(p api.Path) []string {
	var l []string
	for _, key := range []string{p.Local + "@" + p.Domain, "@" + p.Domain, p.Local, p.Domain, p.Local + "@", "@[" + p.Domain + "]", p.Local + "@[" + p.Domain + "]", "@[ipv6:" + p.Domain + "]", "@", "postmaster", "postmaster@"} {
		isKey := key != "" && len(key) <= 320 && key[0] != '#' && !strings.ContainsFunc(key, func(r rune) bool { return r <= ' ' || r > '~' })
		if isKey && !slices.Contains(l, lowered(key)) {
			l = append(l, lowered(key))
		}
	}
	return l
}

// askingFor is a table that has something for a mailbox by each of its keys.
func askingFor(p api.Path) string { return strings.Join(keysFor(p), " b@y\n") + " b@y\n" }

// TestP16_2NotAsked: for whom the tables are not asked, even if they have something for them.
func TestP16_2NotAsked(t *testing.T) {
	for _, p := range wrongPaths() {
		if path.Right(p) != api.ErrPathForm {
			t.Errorf("%s may be", named(p))
		}
		standsForNone(t, made(t, askingFor(p)), p)
		standsForNone(t, made(t, given, askingFor(p), "@x c@z"), p)
	}
	for _, p := range longPaths() {
		if path.Right(p) != api.ErrPathLong {
			t.Errorf("%s is not too long", named(p))
		}
		standsForNone(t, made(t, askingFor(p)), p)
	}
	for _, p := range []api.Path{null, at("postmaster", ""), atLiteral("a", "10.0.0.1"), atLiteral("postmaster", "10.0.0.1"), atLiteral("a", "2001:db8::1"), atLiteral("a", "::"), atLiteral("a b", "10.0.0.1")} {
		if path.Right(p) != api.OK {
			t.Errorf("%s may not be", named(p))
		}
		standsForNone(t, made(t, askingFor(p)), p)
		standsForNone(t, made(t), p)
		standsForNone(t, made(t, given), p)
	}
	l64 := strings.Repeat("l", 64)
	for _, p := range []api.Path{at("a", "10.0.0.1"), at(l64, "x"), at(l64[3:]+" ", "x"), at("a", domainOf(252)), at(l64, domainOf(189)), at("postmaster", "x"), at("Postmaster", "x")} {
		stands(t, made(t, askingFor(p)), p, at("b", "y"))
	}
}

// TestP16_2Keys: what a mailbox is asked by, in one table.
func TestP16_2Keys(t *testing.T) {
	a := made(t, rows("a@x.y b@whole", "@x.y b@domain", "c@x.y b@other", "a b@local", "x.y b@name", ".y b@parent", "@.y b@parent", "@y b@short", "d@ b@none", "e.f@x.y b@dots", "@ b@empty"))
	stands(t, a, at("a", "x.y"), at("b", "whole"))
	stands(t, a, at("c", "x.y"), at("b", "other"))
	stands(t, a, at("d", "x.y"), at("b", "domain"))
	stands(t, a, at("e", "x.y"), at("b", "domain"))
	stands(t, a, at("f", "x.y"), at("b", "domain"))
	stands(t, a, at("e.f", "x.y"), at("b", "dots"))
	stands(t, a, at("a", "y"), at("b", "short"))
	standsForNone(t, a, at("a", "w.x.y"), at("a", "z.y"), at("a", "x.yy"), at("a", "xx.y"), at("a", "x"), at("a", "z"), at("b", "whole"))
}

// TestP16_2Tables: the first table that has something, be it of the domain alone, is the one that is taken, and no other with it.
func TestP16_2Tables(t *testing.T) {
	x := at("a", "x")
	for _, row := range []struct{ first, second, want string }{
		{"a@x b@first", "a@x b@second", "b@first"},
		{"a@x b@first", "@x b@second", "b@first"},
		{"a@x b@first", "c@x d@second", "b@first"},
		{"@x b@first", "a@x b@second", "b@first"},
		{"@x b@first", "@x b@second", "b@first"},
		{"@x b@first", "c@x d@second", "b@first"},
		{"c@x d@first", "a@x b@second", "b@second"},
		{"c@x d@first", "@x b@second", "b@second"},
		{"c@x d@first", rows("@x c@second", "a@x b@second"), "b@second"},
		{rows("@x c@first", "a@x b@first"), "a@x b@second", "b@first"},
		{"", "@x b@second", "b@second"},
		{"a@x a@x", "a@x b@second", "a@x"},
		{"@x a@x", "a@x b@second", "a@x"},
		{"a d@first", "@x b@second", "b@second"},
		{"x d@first", "a@x b@second", "b@second"},
	} {
		const third = "a@x b@third\n@x c@third\n"
		stands(t, made(t, row.first, row.second), x, box(row.want))
		stands(t, made(t, row.first, "", row.second), x, box(row.want))
		stands(t, made(t, "", "# t\n", row.first, "s@x b@y", row.second, third, third), x, box(row.want))
	}
	stands(t, made(t, "c@x d@first", "c@x d@second", "@x b@third"), x, at("b", "third"))
	standsForNone(t, made(t, "c@x d@first", "c@x d@second"), x)
	both := rows("a@x b@whole", "@x b@domain")
	stands(t, made(t, "q@x r@z", both), x, at("b", "whole"))
	stands(t, made(t, both, "q@x r@z"), at("q", "x"), at("b", "domain"))
}

// TestP16_2Order: a value's mailboxes are told in its order, each as often as it stands there.
func TestP16_2Order(t *testing.T) {
	for _, l := range [][]string{
		{"b@y"}, {"b@y", "b@y"}, {"b@y", "c@z", "b@y"}, {"c@z", "b@y"}, {"b@y", "a@x"}, {"a@x", "b@y"}, {"a@x", "a@x", "a@x"}, {"z@z", "y@z", "x@z", "z@z"}, {"b@y", "b@Y", "B@y"}, {"b@y", `"b"@y`}, {"b@[10.0.0.1]", "b@10.0.0.1", "b@[10.0.0.1]"}, {"postmaster@y", "b@y"}, {`"b,c"@y`, "b@y", `"b,c"@y`, `"\b,c"@y`},
	} {
		stands(t, made(t, "a@x "+strings.Join(l, ",")), at("a", "x"), boxes(l...)...)
		stands(t, made(t, "@x "+strings.Join(l, " , ")), at("a", "x"), boxes(l...)...)
		stands(t, made(t, "q@x b@y", "a@x "+strings.Join(l, ",\t")), at("a", "x"), boxes(l...)...)
	}
	stands(t, made(t, "a@x b@y,c@z,b@y"), at("a", "x"), at("b", "y"), at("c", "z"), at("b", "y"))
	d := dice(162)
	all := numbered(100, "k")
	for range 20 {
		for i := range all {
			j := d.roll(i + 1)
			all[i], all[j] = all[j], all[i]
		}
		stands(t, made(t, "a@x "+strings.Join(all, ",")), at("a", "x"), boxes(all...)...)
	}
}

// TestP16_2Once: what it stands for at once alone is told, and not what that stands for.
func TestP16_2Once(t *testing.T) {
	a := made(t, rows("a@x b@x", "b@x c@x, a@x", "c@x d@x"), "d@x a@x", "@x q@q")
	stands(t, a, at("a", "x"), at("b", "x"))
	stands(t, a, at("b", "x"), at("c", "x"), at("a", "x"))
	stands(t, a, at("c", "x"), at("d", "x"))
	stands(t, a, at("d", "x"), at("a", "x"))
	stands(t, a, at("e", "x"), at("q", "q"))
	standsForNone(t, a, at("q", "q"))
}

// TestP16_2Letters: a key's letters turn nothing; a value's are taken as a mailbox's, a local part's stay.
func TestP16_2Letters(t *testing.T) {
	a := made(t, rows("A@x.example B.c@Y.Example, b.C@y.EXAMPLE", "jOe@X.EXAMPLE Q@Z", "@OLD.example n@NEW.Example"))
	for _, local := range []string{"a", "A"} {
		stands(t, a, at(local, "x.example"), at("B.c", "y.example"), at("b.C", "y.example"))
	}
	for _, local := range []string{"joe", "JOE", "Joe", "jOe"} {
		stands(t, a, at(local, "x.example"), at("Q", "z"))
		stands(t, a, at(local, "old.example"), at("n", "new.example"))
	}
	standsForNone(t, a, at("A", "X.example"), at("a", "x.Example"), at("a", "old.EXAMPLE"), at("B", "y.example"))
}

func TestP16_2Quoted(t *testing.T) {
	a := made(t, rows(`"a"@x b@marks`, "a@x b@bare", "a.@x b@dot", `a"\@x b@odd`, `a@b@x "c d"@two`, "@y b@all", `#@x b@sharp`, "a,b@x b@comma", ",@x b@comma"))
	stands(t, a, at("a", "x"), at("b", "bare"))
	stands(t, a, at(`"a"`, "x"), at("b", "marks"))
	stands(t, a, at("a.", "x"), at("b", "dot"))
	stands(t, a, at(`a"\`, "x"), at("b", "odd"))
	stands(t, a, at("a@b", "x"), at("c d", "two"))
	stands(t, a, at("a,b", "x"), at("b", "comma"))
	stands(t, a, at(",", "x"), at("b", "comma"))
	standsForNone(t, a, at("a b", "x"), at(" a", "x"), at("a ", "x"), at("#", "x"), at("b", "x"))
	for _, local := range []string{"a b", " ", `"`, `\`, "..", "a@y", "@y", `"a b"`} {
		stands(t, a, at(local, "y"), at("b", "all"))
	}
}
