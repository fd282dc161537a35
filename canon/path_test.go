package canon_test

import (
	"strings"
	"testing"

	"waybill/api"
	"waybill/path"
)

var null = api.Path{Null: true}

func TestP15_2Examples(t *testing.T) {
	c := made(t, host, given)
	calls(t, c, postmaster, at("postmaster", "mx.example"))
	calls(t, c, at("a", "x.example"), at("b", "y.example"))
	calls(t, c, at("c", "old.example"), at("c", "new.example"))
	stays(t, c, at("b", "y.example"), at("c", "x.example"), at("a", "y.example"), at("c", "new.example"))
}

// TestP15_2Itself: whom the tables are not asked for, even if they have something for them.
func TestP15_2Itself(t *testing.T) {
	l64 := strings.Repeat("l", 64)
	c := made(t, host, rows("@ n@null", "@x @y", "@10.0.0.1 @y", "a@10.0.0.1 b@y", "@[10.0.0.1] @y", "a@[10.0.0.1] b@y", "@2001:db8::1 @y", "@[ipv6:2001:db8::1] @y", "a b@y", "a@ b@y", "postmaster@ b@y", "postmaster b@y", l64+"l@x b@y", "@"+domainOf(252)+" b@y", "@"+domainOf(253)+" b@y", "@"+domainOf(256)+" b@y", "@mx.example @y"))
	stays(t, made(t, host, rows("@mx.example joe@y", "@ joe@y")), null)
	stays(t, c, null, atLiteral("a", "10.0.0.1"), atLiteral("postmaster", "10.0.0.1"), atLiteral("a", "2001:db8::1"))
	calls(t, c, at("a", "10.0.0.1"), at("b", "y")) // a domain, as it is no literal
	for _, p := range []api.Path{
		{}, at("", "x"), at("a", ""), at("Postmaster", ""), at("POSTMASTER", ""), at("a", "X"), at("a", "-"), at("a", "x."), at("a", "@x"), at("a", "[10.0.0.1]"), at("a\x00", "x"), at("\x80", "x"), at("a\t", "x"), at("a\u00e9", "x"), at("a", "\u212a"), at("a", "x\n"),
		atLiteral("a", "x"), atLiteral("a", ""), atLiteral("", "10.0.0.1"), atLiteral("a", "[10.0.0.1]"), atLiteral("a", "2001:DB8::1"), atLiteral("postmaster", ""),
		{Null: true, Local: "a", Domain: "x"}, {Null: true, Domain: "x"}, {Null: true, Local: "postmaster"}, {Null: true, Literal: true}, {Null: true, Local: "a", Domain: "10.0.0.1", Literal: true},
	} {
		if p != null && path.Right(p) != api.ErrPathForm {
			t.Errorf("%s may be", named(p))
		}
		stays(t, c, p)
	}
	for _, p := range []api.Path{at(l64+"l", "x"), at(l64[2:]+" ", "x"), at(xs(1000), "x"), at("a", domainOf(253)), at("a", domainOf(256)), at(l64, domainOf(190)), atLiteral(l64+"l", "10.0.0.1")} {
		if path.Right(p) != api.ErrPathLong {
			t.Errorf("%s is not too long", named(p))
		}
		stays(t, c, p)
	}
	calls(t, c, at(l64, "x"), at(l64, "y"))
	calls(t, c, at("a", domainOf(252)), at("b", "y"))
	calls(t, c, at("postmaster", "x"), at("postmaster", "y"))
}

func TestP15_2NoDomain(t *testing.T) {
	for _, x := range []struct {
		table string
		want  api.Path
	}{
		{"", at("postmaster", host)},
		{"postmaster@mx.example joe@y", at("joe", "y")},
		{"PostMaster@MX.Example joe@y", at("joe", "y")},
		{"@mx.example @y", at("postmaster", "y")},
		{"@mx.example joe@y", at("joe", "y")},
		{"@mx.example joe@[10.0.0.1]", atLiteral("joe", "10.0.0.1")},
		{"@mx.example postmaster@mx.example", at("postmaster", host)},
		{"@mx.example @mx.example", at("postmaster", host)},
		{"postmaster joe@y", at("postmaster", host)},
		{"postmaster@ joe@y", at("postmaster", host)},
		{"@ joe@y", at("postmaster", host)},
		{"mx.example joe@y", at("postmaster", host)},
		{".example joe@y", at("postmaster", host)},
		{"@.example joe@y", at("postmaster", host)},
		{"@example joe@y", at("postmaster", host)},
		{rows("postmaster@mx.example joe@y", "@mx.example @z", "@ q@q"), at("joe", "y")},
		{rows("postmaster@mx.example @y", "joe@mx.example joe@z"), at("postmaster", "y")},
	} {
		calls(t, made(t, host, x.table), postmaster, x.want)
		calls(t, made(t, host, x.table), at("postmaster", host), x.want)
	}
	calls(t, made(t, "y.example", given, "@mx.example @z"), postmaster, at("postmaster", "y.example"))
}

// TestP15_2Keys: what a mailbox is asked by, in one table.
func TestP15_2Keys(t *testing.T) {
	c := made(t, host, rows("a@x.y b@whole", "@x.y @domain", "c@x.y @other", "a b@local", "x.y b@name", ".y b@parent", "@.y b@parent", "@y b@short", "d@ b@none", "e.f@x.y g@dots"))
	calls(t, c, at("a", "x.y"), at("b", "whole"))
	calls(t, c, at("c", "x.y"), at("c", "other"))
	calls(t, c, at("d", "x.y"), at("d", "domain"))
	calls(t, c, at("e.f", "x.y"), at("g", "dots"))
	calls(t, c, at("a", "y"), at("b", "short"))
	stays(t, c, at("a", "w.x.y"), at("a", "z.y"), at("a", "x.yy"), at("a", "xx.y"), at("a", "z"), at("a", host))
	calls(t, c, at("e", "x.y"), at("e", "domain"))
}

// TestP15_2Tables: the first table that has something, be it of the domain alone, is the one that is taken.
func TestP15_2Tables(t *testing.T) {
	x := at("a", "x")
	for _, row := range []struct {
		first, second string
		want          api.Path
	}{
		{"a@x b@first", "a@x b@second", at("b", "first")},
		{"a@x b@first", "@x @second", at("b", "first")},
		{"a@x b@first", "c@x d@second", at("b", "first")},
		{"@x @first", "a@x b@second", at("a", "first")},
		{"@x @first", "@x @second", at("a", "first")},
		{"@x b@first", "a@x @second", at("b", "first")},
		{"@x @first", "c@x d@second", at("a", "first")},
		{"c@x d@first", "a@x b@second", at("b", "second")},
		{"c@x d@first", "@x @second", at("a", "second")},
		{"c@x d@first", rows("@x @second", "a@x b@second"), at("b", "second")},
		{"", "@x @second", at("a", "second")},
		{"a@x a@x", "a@x b@second", x},
		{"@x @x", "a@x b@second", x},
	} {
		const third = "a@x b@third\n@x @third\n"
		calls(t, made(t, host, row.first, row.second), x, row.want)
		calls(t, made(t, host, row.first, "", row.second), x, row.want)
		calls(t, made(t, host, "", "# t\n", row.first, given, row.second, third, third), x, row.want)
	}
	calls(t, made(t, host, "c@x d@first", "c@x d@second", "@x @third"), x, at("a", "third"))
	stays(t, made(t, host, "c@x d@first", "c@x d@second"), x)
	both := rows("a@x b@whole", "@x @domain")
	calls(t, made(t, host, both), at("a", "x"), at("b", "whole"))
	calls(t, made(t, host, both), at("q", "x"), at("q", "domain"))
	calls(t, made(t, host, "q@x r@z", both), at("a", "x"), at("b", "whole"))
	calls(t, made(t, host, both, "q@x r@z"), at("q", "x"), at("q", "domain"))
}

// TestP15_2Letters: a key's letters turn nothing; a value's are taken as a mailbox's, a local part's stay.
func TestP15_2Letters(t *testing.T) {
	c := made(t, host, rows("A@x.example B.c@Y.Example", "jOe@X.EXAMPLE @Z", "@OLD.example @NEW.Example"))
	for _, local := range []string{"a", "A"} {
		calls(t, c, at(local, "x.example"), at("B.c", "y.example"))
	}
	for _, local := range []string{"joe", "JOE", "Joe", "jOe"} {
		calls(t, c, at(local, "x.example"), at(local, "z"))
		calls(t, c, at(local, "old.example"), at(local, "new.example"))
	}
	stays(t, c, at("A", "X.example"), at("a", "x.Example"), at("a", "old.EXAMPLE"), at("B", "y.example"))
}

func TestP15_2Quoted(t *testing.T) {
	c := made(t, host, rows(`"a"@x b@marks`, "a@x b@bare", "a.@x b@dot", `a"\@x b@odd`, `a@b@x "c d"@two`, "@y @z", `#@x b@sharp`))
	calls(t, c, at("a", "x"), at("b", "bare"))
	calls(t, c, at(`"a"`, "x"), at("b", "marks"))
	calls(t, c, at("a.", "x"), at("b", "dot"))
	calls(t, c, at(`a"\`, "x"), at("b", "odd"))
	calls(t, c, at("a@b", "x"), at("c d", "two"))
	stays(t, c, at("a b", "x"), at(" a", "x"), at("a ", "x"), at("#", "x"))
	for _, local := range []string{"a b", " ", `"`, `\`, "..", "a@y", "@y", `"a b"`} {
		calls(t, c, at(local, "y"), at(local, "z"))
	}
}

// TestP15_2TooLong: a path that would be too long is not put there, one that just is not is.
func TestP15_2TooLong(t *testing.T) {
	locals := []string{"a", "a.b", "a b", `"`, `\"\"`, strings.Repeat("l", 64), strings.Repeat("l", 61) + " ", strings.Repeat(`"`, 31), "postmaster"}
	for _, local := range locals {
		form, e := path.Show(at(local, "x"))
		if e != api.OK {
			t.Fatal(named(at(local, "x")), e)
		}
		most := 256 - len("<") - len(form) + len("x") - len(">")
		for size := most - 2; size <= most; size++ {
			calls(t, made(t, host, "@x @"+domainOf(size)), at(local, "x"), at(local, domainOf(size)))
			calls(t, made(t, host, "@x @"+strings.ToUpper(domainOf(size))), at(local, "x"), at(local, domainOf(size)))
		}
		for size := most + 1; size <= 255; size++ {
			stays(t, made(t, host, "@x @"+domainOf(size)), at(local, "x"))
		}
	}
}

// TestP15_2LongHost: a name that would make a path too long stands in no place, but tables can put something else there.
func TestP15_2LongHost(t *testing.T) {
	for _, size := range []int{240, 243} {
		calls(t, made(t, domainOf(size)), postmaster, at("postmaster", domainOf(size)))
	}
	for _, size := range []int{244, 245, 254, 255} {
		name := domainOf(size)
		stays(t, made(t, name), postmaster)
		stays(t, made(t, name, "@"+name+" @"+domainOf(244)), postmaster)
		calls(t, made(t, name, "@"+name+" @y"), postmaster, at("postmaster", "y"))
		calls(t, made(t, name, "postmaster@"+name+" joe@y"), postmaster, at("joe", "y"))
	}
	for _, size := range []int{244, 255} { // what is too long at the end leaves not even the name there
		stays(t, made(t, host, "@mx.example @"+domainOf(size)), postmaster, at("postmaster", host))
	}
	calls(t, made(t, host, "@mx.example @"+domainOf(243)), postmaster, at("postmaster", domainOf(243)))
}

// TestP15_2Once: what comes of it is not asked again, in the same table or in another one.
func TestP15_2Once(t *testing.T) {
	chain, swap := rows("a@x b@y", "b@y c@z", "c@z d@w"), rows("@x @y", "@y @x")
	for _, tables := range [][]string{{chain}, {"a@x b@y", "b@y c@z", "c@z d@w"}, {"c@z d@w", "b@y c@z", "a@x b@y"}} {
		c := made(t, host, tables...)
		calls(t, c, at("a", "x"), at("b", "y"))
		calls(t, c, at("b", "y"), at("c", "z"))
		calls(t, c, at("c", "z"), at("d", "w"))
		stays(t, c, at("d", "w"))
	}
	c := made(t, host, swap, rows("a@w postmaster@mx.example", "postmaster@mx.example joe@v"))
	calls(t, c, at("a", "x"), at("a", "y"))
	calls(t, c, at("a", "y"), at("a", "x"))
	calls(t, c, at("a", "w"), at("postmaster", host))
	calls(t, c, postmaster, at("joe", "v"))
	c = made(t, host, rows("@mx.example @x", "@x @y", "a@x b@mx.example"))
	calls(t, c, postmaster, at("postmaster", "x"))
	calls(t, c, at("a", "x"), at("b", host))
}
