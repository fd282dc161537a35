package mailaddr_test

import (
	"slices"
	"strings"
	"testing"

	"waybill/api"
	"waybill/mailaddr"
)

// wrongPaths are paths that no address can be put to, and what is said of each.
func wrongPaths() map[api.Path]api.Errno {
	return map[api.Path]api.Errno{
		{}:                                       api.ErrArg,
		{Null: true}:                             api.ErrArg,
		{Null: true, Domain: "b"}:                api.ErrArg,
		{Null: true, Local: "a"}:                 api.ErrArg,
		{Null: true, Local: "a", Domain: "b"}:    api.ErrArg,
		{Local: "postmaster"}:                    api.ErrArg,
		{Local: "a"}:                             api.ErrArg,
		{Local: "\x80"}:                          api.ErrArg,
		{Local: strings.Repeat("l", 65)}:         api.ErrArg,
		{Literal: true}:                          api.ErrArg,
		{Local: "a", Literal: true}:              api.ErrArg,
		at("", "b"):                              api.ErrPathForm,
		at("a", "B"):                             api.ErrPathForm,
		at("a", "-"):                             api.ErrPathForm,
		at("a", "b."):                            api.ErrPathForm,
		at("a", "b c"):                           api.ErrPathForm,
		at("a\x80", "b"):                         api.ErrPathForm,
		at("a\r\n", "b"):                         api.ErrPathForm,
		at("a\t", "b"):                           api.ErrPathForm,
		at("a", "[1.2.3.4]"):                     api.ErrPathForm,
		at("a", strings.Repeat("b", 64)):         api.ErrPathForm,
		at(strings.Repeat("l", 65), "-"):         api.ErrPathForm,
		atLiteral("a", "b"):                      api.ErrPathForm,
		atLiteral("a", "::0"):                    api.ErrPathForm,
		atLiteral("a", "[1.2.3.4]"):              api.ErrPathForm,
		at(strings.Repeat("l", 65), "b"):         api.ErrPathLong,
		at(strings.Repeat("l", 62)+" ", "b"):     api.ErrPathLong,
		at("a", domainOf(253)):                   api.ErrPathLong,
		at("a", domainOf(255)):                   api.ErrPathLong,
		at("a", domainOf(256)):                   api.ErrPathLong,
		atLiteral(strings.Repeat("l", 65), "::"): api.ErrPathLong,
	}
}

func TestP10_2Examples(t *testing.T) {
	replaces(t, "J <a@b> (x)", "J <c@d> (x)", cd)
	replaces(t, "J <a@b> (x)", `J <"c d"@e> (x)`, at("c d", "e"))
	replaces(t, "", "")
	replaces(t, ",,", ",,")
	replaces(t, " (a@b) g:(c);\r\n ", " (a@b) g:(c);\r\n ")
}

// TestP10_2Stays: names, routes, groups, comments and blanks stay; what stands within an address goes with it.
func TestP10_2Stays(t *testing.T) {
	replaces(t, "a@b", "c@d", cd)
	replaces(t, " \r\n (x) a (y) @ (z) b (w) ", " \r\n (x) c@d (w) ", cd)
	replaces(t, `"a" . b@[1.2.3.4]`, "c@d", cd)
	replaces(t, `"a" . b@[1.2.3.4],"a"@b`, "c@d,e@f", cd, ef)
	replaces(t, " J . (a@b) Q. <@x,@[y] : a@b> (z)", " J . (a@b) Q. <@x,@[y] : c@d> (z)", cd)
	replaces(t, "<@a:a@b>", "<@a:c@d>", cd)
	replaces(t, "g (x): a@b (y) , \r\n\tN<a@b>(z);,,\"a@b\"<a@b>", "g (x): c@d (y) , \r\n\tN<e@f>(z);,,\"a@b\"<a@b>", cd, ef, ab)
	replaces(t, "a@b,a@b,a@b", `"c d"@e,e@f,a@[IPv6:::1]`, at("c d", "e"), ef, atLiteral("a", "::1"))
	replaces(t, "\x80\xff <a@b>(\x00\x80)", "\x80\xff <c@d>(\x00\x80)", cd)
	replaces(t, "a@b(a@b)", "c@d(a@b)", cd)
	replaces(t, ",a@b,", `,"\"\\"@d,`, at(`"\`, "d"))
}

func TestP10_2Counts(t *testing.T) {
	paths := slices.Repeat([]api.Path{cd}, 203)
	for _, n := range []int{0, 1, 2, 199, 200} {
		body := strings.Repeat("N <a@b>, ", n)
		replaces(t, body, strings.Repeat("N <c@d>, ", n), paths[:n]...)
		for _, other := range []int{0, 1, n - 1, n + 1, n + 2, 200, 201} {
			if other != n && other >= 0 {
				noReplace(t, api.ErrArg, body, paths[:other]...)
				noReplace(t, api.ErrArg, body, slices.Repeat([]api.Path{at("a", "-")}, other)...)
				noReplace(t, api.ErrArg, body, slices.Repeat([]api.Path{at("a", domainOf(255))}, other)...)
			}
		}
	}
	noReplace(t, api.ErrMailMany, strings.Repeat("a@b,", 201), paths[:201]...)
	noReplace(t, api.ErrMailMany, strings.Repeat("a@b,", 201), paths[:200]...)
	noReplace(t, api.ErrMailForm, "a@b c@d", paths[:2]...)
	noReplace(t, api.ErrMailForm, "a@-", paths[:2]...)
	noReplace(t, api.ErrMailLong, strings.Repeat("l", 65)+"@b", paths[:2]...)
	noReplace(t, api.ErrMailLong, strings.Repeat(" ", 65537), paths[:2]...)
}

// TestP10_2Wrong: with each path wrong in turn, and with several.
func TestP10_2Wrong(t *testing.T) {
	const body = "a@b, N <a@b>, g: a@b, <@x:a@b>;"
	long := at("a", domainOf(255))
	for p, code := range wrongPaths() {
		noReplace(t, code, "a@b", p)
		noLists(t, code, p)
		for i := range 4 {
			l := slices.Repeat([]api.Path{cd}, 4)
			l[i] = p
			noReplace(t, code, body, l...)
			noReplace(t, api.ErrArg, body, l[:3]...)
			noLists(t, code, l...)
			for j := i + 1; j < 4; j++ {
				for q := range wrongPaths() {
					l[j] = q
					noReplace(t, code, body, l...)
					noLists(t, code, l...)
				}
				l[j] = long
				noReplace(t, code, body, l...)
				noLists(t, code, l...)
				l[j] = cd
			}
		}
	}
}

// TestP10_2Long: results of as many bytes as may be, and one more.
func TestP10_2Long(t *testing.T) {
	for _, n := range []int{1, 2, 200} {
		front := strings.Repeat("a@b,", n)
		paths := slices.Repeat([]api.Path{at("ccc", "ddd")}, n) // four bytes more, each
		fit := front + strings.Repeat(" ", 65536-8*n)
		replaces(t, fit, strings.Repeat("ccc@ddd,", n)+strings.Repeat(" ", 65536-8*n), paths...)
		noReplace(t, api.ErrMailLong, fit+" ", paths...)
		noReplace(t, api.ErrMailLong, fit+strings.Repeat(" ", 4*n), paths...)
		noReplace(t, api.ErrMailLong, fit+strings.Repeat(" ", 4*n+1), paths...)
		paths[n-1] = at("a", "-")
		noReplace(t, api.ErrPathForm, fit+" ", paths...)
		paths[n-1] = api.Path{Null: true}
		noReplace(t, api.ErrArg, fit+" ", paths...)
		paths[n-1] = at("ccc", "dd")
		replaces(t, fit+" ", strings.Repeat("ccc@ddd,", n-1)+"ccc@dd,"+strings.Repeat(" ", 65537-8*n), paths...)
	}
	six := "a@[IPv6:1::3:4:5:6:7:8]"
	p := atLiteral("a", "1:0:3:4:5:6:7:8") // one byte more than stands there
	has(t, six+strings.Repeat(" ", 65536-len(six)), p)
	noReplace(t, api.ErrMailLong, six+strings.Repeat(" ", 65536-len(six)), p)
	replaces(t, six+strings.Repeat(" ", 65535-len(six)), "a@[IPv6:1:0:3:4:5:6:7:8]"+strings.Repeat(" ", 65535-len(six)), p)
}

func TestP10_3List(t *testing.T) {
	lists(t, "")
	lists(t, "a@b", ab)
	lists(t, "a@b, c@d, e@f", ab, cd, ef)
	lists(t, "a@b, a@b", ab, ab)
	lists(t, `"c d"@e, x@y`, at("c d", "e"), at("x", "y"))
	lists(t, `a.b@c, ".a"@b, "a."@b, "a..b"@c, "."@d`, at("a.b", "c"), at(".a", "b"), at("a.", "b"), at("a..b", "c"), at(".", "d"))
	lists(t, `"\""@a, "\\"@b, "\"\\\""@c, " "@d, "(x)"@e, "a@b, <c>;:"@f`, at(`"`, "a"), at(`\`, "b"), at(`"\"`, "c"), at(" ", "d"), at("(x)", "e"), at("a@b, <c>;:", "f"))
	lists(t, "a@[10.0.0.1], b@[IPv6:::1], postmaster@c", atLiteral("a", "10.0.0.1"), atLiteral("b", "::1"), at("postmaster", "c"))
	lists(t, strings.Repeat("l", 64)+"@b, a@"+domainOf(252), at(strings.Repeat("l", 64), "b"), at("a", domainOf(252)))
	for c := 32; c <= 126; c++ {
		if s := string([]byte{byte(c)}); isOneOf(byte(c), ofAtom) {
			lists(t, s+"@b", at(s, "b"))
		} else if c == '"' || c == '\\' {
			lists(t, `"\`+s+`"@b`, at(s, "b"))
		} else {
			lists(t, `"`+s+`"@b`, at(s, "b"))
		}
	}
}

func TestP10_3Many(t *testing.T) {
	greatest := at("a", domainOf(252))
	for _, n := range []int{2, 199, 200} {
		lists(t, strings.Repeat("a@b, ", n-1)+"a@b", slices.Repeat([]api.Path{ab}, n)...)
		lists(t, strings.Repeat("a@"+domainOf(252)+", ", n-1)+"a@"+domainOf(252), slices.Repeat([]api.Path{greatest}, n)...)
	}
	for _, n := range []int{201, 202, 1000} {
		noLists(t, api.ErrMailMany, slices.Repeat([]api.Path{ab}, n)...)
		for p, code := range wrongPaths() {
			l := slices.Repeat([]api.Path{ab}, n)
			l[0], l[n-1] = p, p
			noLists(t, api.ErrMailMany, l...)
			noLists(t, code, l[:200]...)
			noLists(t, code, l[n-200:]...)
		}
	}
	if s, e := mailaddr.List(make([]api.Path, 200)); s != "" || e != api.ErrArg {
		t.Error(s, e)
	}
}
