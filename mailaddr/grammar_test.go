package mailaddr_test

import (
	"slices"
	"strings"
	"testing"

	"waybill/api"
	"waybill/mailaddr"
)

var (
	ab = at("a", "b")
	cd = at("c", "d")
	ef = at("e", "f")
)

func TestP10_1Examples(t *testing.T) {
	parses(t, "Joe (x) Q <a . b (c) @ D.org>, <c@d>", addr(at("a.b", "d.org"), 11, 28, "Joe (x) Q"), addr(cd, 32, 35, ""))
	parses(t, `team: a@b, "c d"@e;, f@g`, addr(ab, 6, 9, ""), addr(at("c d", "e"), 11, 18, ""), addr(at("f", "g"), 21, 24, ""))
	for _, body := range []string{"", ",,", "x:;"} {
		parses(t, body)
	}
	noForm(t, "a", "a@b c@d", "<a@b", "a@b)")
}

// TestP10_1Missing: elements may be missing at each place, also within a group.
func TestP10_1Missing(t *testing.T) {
	for _, s := range []string{"", ",", ",,", ",,,", " ", "(x)", " , ", "(x),(y)", "\r\n", "\r\n ,\t, (z)"} {
		has(t, s)
		has(t, "g:"+s+";")
		has(t, s+",g:"+s+";,"+s)
		has(t, s+",a@b", ab)
		has(t, "a@b,"+s, ab)
		has(t, s+",a@b,"+s, ab)
		has(t, "a@b,"+s+",c@d", ab, cd)
		has(t, "g:"+s+",a@b;", ab)
		has(t, "g:a@b,"+s+";", ab)
		has(t, "g:a@b,"+s+",c@d;", ab, cd)
		has(t, "g:"+s+",a@b,"+s+",c@d,"+s+";,"+s+",e@f,"+s, ab, cd, ef)
	}
	noForm(t, "a@b c@d", "a@b,c@d e@f", "g:a@b c@d;", "g:a@b,c@d e@f;", "a@b;c@d", "a@b:c@d", "a@b.c@d", "<a@b><c@d>", "a@b<c@d>", "<a@b>c@d", "a@b g:;", "g:;a@b", "g:; a@b", "g:;h:;", "g:;;", "g:;<a@b>", "g:a@b;c@d", "<a@b>g:;")
}

func TestP10_1Groups(t *testing.T) {
	parses(t, "g:;,h:,;,i:,,;")
	parses(t, "g:a@b;", addr(ab, 2, 5, ""))
	parses(t, "g:N <a@b>;", addr(ab, 5, 8, "N"))
	parses(t, "g h: a@b, <c@d>;", addr(ab, 5, 8, ""), addr(cd, 11, 14, ""))
	parses(t, `g."h" (x) i. : a@b , "N" <c@d> ; , M <e@f>`, addr(ab, 15, 18, ""), addr(cd, 26, 29, `"N"`), addr(ef, 38, 41, "M"))
	parses(t, "g:<@x:a@b>;", addr(ab, 6, 9, ""))
	parses(t, "c@d,g:a@b;,e@f", addr(cd, 0, 3, ""), addr(ab, 6, 9, ""), addr(ef, 11, 14, ""))
	parses(t, "g:a@b;,h:c@d;", addr(ab, 2, 5, ""), addr(cd, 9, 12, ""))
	noForm(t, "g:", "g:a@b", "g:a@b,", "g", "g;", ";", ":", ":;", ": a@b;", ".:;", ".g:a@b;", ",:;", "(x):a@b;", "a@b;", "a@b,c@d;", "g:a@b;;", "g::;", "g:;:", "<>:;", "a@b:;", "<a@b>:c@d;", "[1.2.3.4]:;", "N <a@b>:;")
	noForm(t, "g:h:;;", "g:h:a@b;;", "g:h:a@b;", "a: b: c@d;;", "g:a@b,h:c@d;;", "g:a@b,h:;", "g:h:;", "g:(x:;);h", "g:,h:;,;", "g:.;", "g:h;", "g:a@b,h;", "g: <a@b;>", "g: a@b;>", "<g:a@b;>", "N <g:a@b;>", "g;:a@b", "g,h:a@b")
}

func TestP10_1Names(t *testing.T) {
	for phrase, name := range map[string]string{
		"":                              "",
		" ":                             "",
		"(x)":                           "",
		"N":                             "N",
		" N ":                           "N",
		"(x)N(y)":                       "N",
		"(x) N (y) ":                    "N",
		"N M":                           "N M",
		"N\r\n M":                       "N\r\n M",
		"N(x)M":                         "N(x)M",
		"N (x, <a@b>) (y) M (z)":        "N (x, <a@b>) (y) M",
		`"N"`:                           `"N"`,
		`"N" "M"`:                       `"N" "M"`,
		`"N""M"`:                        `"N""M"`,
		`N"M"O`:                         `N"M"O`,
		`"N, <M>;" O`:                   `"N, <M>;" O`,
		`"\"N\\"`:                       `"\"N\\"`,
		`" "`:                           `" "`,
		`""`:                            `""`,
		"N.":                            "N",
		"N. ":                           "N",
		"N . (x) . ":                    "N",
		"N.M":                           "N.M",
		"N..M":                          "N..M",
		"J. R. (x) Q.":                  "J. R. (x) Q",
		`"J".`:                          `"J"`,
		`J."R".`:                        `J."R"`,
		"(x(y)) J . (\") Q . (z) ":      "J . (\") Q",
		"a.b":                           "a.b",
		"\t!#$%&'*+-/=?^_`{|}~\x80\xff": "!#$%&'*+-/=?^_`{|}~\x80\xff",
		"1 2":                           "1 2",
	} {
		n := len(phrase)
		parses(t, phrase+"<a@b>", addr(ab, n+1, n+4, name))
		parses(t, "g:"+phrase+"<a@b>;", addr(ab, n+3, n+6, name))
		parses(t, phrase+"<@x.y,@z:a@b>", addr(ab, n+9, n+12, name))
		parses(t, "c@d,"+phrase+"<a@b>,"+phrase+"<e@f>", addr(cd, 0, 3, ""), addr(ab, n+5, n+8, name), addr(ef, 2*n+11, 2*n+14, name))
		if name != "" {
			parses(t, phrase+":a@b;", addr(ab, n+1, n+4, ""))
			noForm(t, phrase, phrase+",a@b", "a@b,"+phrase, "g:"+phrase+";", "."+phrase+"<a@b>", "."+phrase+":a@b;", phrase+"@<a@b>", phrase+",<a@b")
		}
	}
	noForm(t, ".<a@b>", ". <a@b>", "..<a@b>", ".N <a@b>", "(x).N <a@b>", ". N. <a@b>", "N@ <a@b>", "N@M <a@b>", "N; <a@b>", "N: <a@b>", "N > <a@b>", "N < <a@b>", "N, <a@b", "[N] <a@b>", "N [M] <a@b>", "N) <a@b>", "N\\ <a@b>", "N\x00 <a@b>", `"N <a@b>`, "N <a@b> M", "N <a@b> .", `N <a@b> "M"`, "N M")
}

func TestP10_1Brackets(t *testing.T) {
	parses(t, "<a@b>", addr(ab, 1, 4, ""))
	parses(t, " < a @ b > ", addr(ab, 3, 8, ""))
	parses(t, "(v)<(w)a(x)@b(y)>(z)", addr(ab, 7, 13, ""))
	noForm(t, "<", ">", "<>", "< >", "<(a@b)>", "<<>>", "<a@b", "a@b>", ">a@b<", "<<a@b>", "<a@b>>", "<<a@b>>", "<a>", "<a@>", "<@b>", "<@b:>", "<,>", "<a@b,>", "<,a@b>", "<a@b,c@d>", "<a@b c@d>", "<N a@b>", "<a@b N>", "<a@b;>", "<a@b:>", "<:a@b>", "<a@b.>", "<.a@b>", "<N <a@b>>", "<a@b>.", "<a@b>@", "<a@b>:", "<a@b>;", "<a@b>a", `<a@b>""`, "<a@b>[1.2.3.4]", "<a@b> <c@d>", "N <>", "<postmaster>", "postmaster", "Postmaster <postmaster>")
}

func TestP10_1Routes(t *testing.T) {
	for _, route := range []string{"@x:", "@x.y:", "@x,@y:", "@x,@y.z,@a.b.c:", "@[1.2.3.4]:", "@[x]:", "@x,@[IPv6:::1]:", "@[1.2.3.4],@x:", "@X:", " @ x : ", "(a)@(b)x(c).(d)y(e),(f)@(g)z(h):(i)", "\r\n @x\r\n ,@y :", "@-:", "@x_y:", "@-x.y-:", "@\x80.\xff:", "@" + strings.Repeat("x", 100) + ":", "@" + domainOf(300) + ":", strings.Repeat("@x,", 1000) + "@y:"} {
		n := len(route)
		parses(t, "<"+route+"a@b>", addr(ab, n+1, n+4, ""))
		parses(t, "N M. <"+route+"a@b>", addr(ab, n+6, n+9, "N M"))
		parses(t, "g:<"+route+"a@b>,<"+route+"c@d>;", addr(ab, n+3, n+6, ""), addr(cd, 2*n+9, 2*n+12, ""))
		noForm(t, route, route+"a@b", "N "+route+"a@b", "<"+route+">", "<"+route+"a>", "<"+route+"@b>", "<"+route+route+"a@b>", "<a@b"+route+">", "<a"+route+"b>", "<"+route+"a@b", "<"+route+",a@b>", "<,"+route+"a@b>", "<N "+route+"a@b>", "<"+route+"<a@b>>", "<"+route+":a@b>", "<"+route+"a@b,c@d>")
	}
	noForm(t, "<@x a@b>", "<@xa@b>", "<@x,a@b>", "<@x,:a@b>", "<@x,,@y:a@b>", "<@x @y:a@b>", "<@x@y:a@b>", "<@x,y:a@b>", "<@:a@b>", "<@,@x:a@b>", "<@.x:a@b>", "<@x.:a@b>", "<@x..y:a@b>", `<@"x":a@b>`, `<@x."y":a@b>`, "<@[x].y:a@b>", "<@y.[x]:a@b>", "<@[x][y]:a@b>", "<@x y:a@b>", "<x:a@b>", "<:a@b>", "<@x;a@b>", "<@@x:a@b>", "<a@x:a@b>", "<@x:;a@b>", "<@x", "<@x:", "<@x,", "<@x:a", "<@x>")
}

func TestP10_1Specs(t *testing.T) {
	is(t, "a@b", ab)
	is(t, "a.b.c@d.e.f", at("a.b.c", "d.e.f"))
	is(t, "A.b@C.D", at("A.b", "c.d"))
	is(t, "Postmaster@X", at("Postmaster", "x"))
	is(t, `a."b".c@d`, at("a.b.c", "d"))
	is(t, `"a"."b"@c`, at("a.b", "c"))
	is(t, `"a b".c."d\"e"@f`, at(`a b.c.d"e`, "f"))
	is(t, `a."@".c@d`, at("a.@.c", "d"))
	is(t, `a . "b c" . d @ e . f`, at("a.b c.d", "e.f"))
	is(t, "a\r\n .\tb(x(y))@(z)c.(.)d", at("a.b", "c.d"))
	is(t, ofAtom[62:]+"@x", at(ofAtom[62:], "x"))
	is(t, "1@2.3", at("1", "2.3"))
	is(t, "a@1.2.3.4", at("a", "1.2.3.4"))
	parses(t, "a@b,c@d", addr(ab, 0, 3, ""), addr(cd, 4, 7, ""))
	parses(t, "a@b,<c@d>,e@f", addr(ab, 0, 3, ""), addr(cd, 5, 8, ""), addr(ef, 10, 13, ""))
	noForm(t, "a", "@", "a@", "@b", "a b", "a@@b", "a@b@c", "a@b@", "@a@b", ".a@b", "a.@b", "a..b@c", ".@a", "a@.b", "a@b.", "a@b..c", "a@.", ". a@b", "a . @b", "a@b c", "a b@c", "a.b c@d", "a@b. c.", `a "b"@c`, `"a"b@c`, `"a" "b"@c`, "a@b,c", "a,b@c", "a@,b", "a.,b@c", "a@b:", "a@b;", "a@b>", "a@b<", `a@b""`, "a@b[1.2.3.4]", "a,@b", "a@b,.", "a@b,@", "a@b,c@", "a@b,@d")
	noForm(t, "a@-b", "a@b-", "a@b.-c", "a@b_c", "a@b!", "a@b.c/d", "a@"+strings.Repeat("b", 64), "a@c."+strings.Repeat("b", 64))
}

// bodies are lists, token by token.
var bodies = [][]string{
	{},
	{"a", "@", "b"},
	{"a", ".", `"b c"`, "@", "d", ".", "e"},
	{"a", "@", "[1.2.3.4]", ",", "<", "c", "@", "d", ">"},
	{"N", `"M"`, ".", "O", ".", "<", "a", ".", "b", "@", "c", ">"},
	{"<", "@", "x", ".", "y", ",", "@", "[z]", ":", "a", "@", "b", ">"},
	{"g", ".", `"h"`, ":", "a", "@", "b", ",", ",", "N", "<", "@", "x", ":", "c", "@", "d", ">", ";", ",", ",", "e", "@", "f"},
	{",", "g", ":", ";", ",", "h", ":", ",", ";", ","},
	{"N", "<", "a", "@", "b", ">", ",", "M", ".", "<", "c", "@", "[IPv6:::1]", ">", ",", "e", ".", "e", "@", "f", ".", "f"},
}

// TestP10_1EachToken: with each token of a list left out, doubled, another one in its place or ahead of it.
func TestP10_1EachToken(t *testing.T) {
	sorts := []string{"a", `"q"`, "[1.2.3.4]", "<", ">", "@", ",", ";", ":", ".", "(x)", ")"}
	for _, body := range bodies {
		sameList(t, strings.Join(body, " "))
		for i := range len(body) + 1 {
			for _, s := range sorts {
				sameList(t, strings.Join(slices.Insert(slices.Clone(body), i, s), " "))
				if i < len(body) {
					sameList(t, strings.Join(slices.Concat(body[:i], []string{s}, body[i+1:]), " "))
				}
			}
			if i < len(body) {
				sameList(t, strings.Join(slices.Concat(body[:i], body[i+1:]), " "))
				sameList(t, strings.Join(slices.Insert(slices.Clone(body), i, body[i]), " "))
				sameList(t, strings.Join(body[:i], " "))
				sameList(t, strings.Join(body[i:], " "))
			}
		}
	}
}

// TestP10_1ShortRows: all rows of a few tokens.
func TestP10_1ShortRows(t *testing.T) {
	sorts := []string{"a", `"q"`, "[1.2.3.4]", "<", ">", "@", ",", ";", ":", "."}
	codes := map[api.Errno]int{}
	for size, all := 1, len(sorts); size <= 5; size, all = size+1, all*len(sorts) {
		row := make([]string, size)
		for n := range all {
			for i := range row {
				row[i] = sorts[n%len(sorts)]
				n /= len(sorts)
			}
			codes[sameList(t, strings.Join(row, " "))]++
		}
	}
	if codes[api.OK] < 100 || codes[api.ErrMailForm] < 1000 {
		t.Error(codes)
	}
}

// TestP10_1EachByte: each byte at each place of lists.
func TestP10_1EachByte(t *testing.T) {
	for _, body := range bodies {
		text := strings.Join(body, "")
		eachByte(func(c byte, s string) {
			for i := range len(text) + 1 {
				sameList(t, text[:i]+s+text[i:])
				if i < len(text) {
					sameList(t, text[:i]+s+text[i+1:])
				}
			}
		})
	}
}

// TestP10_5BetweenTokens: comments and blanks at each place between tokens of lists, and at all of them, turn no mailbox.
func TestP10_5BetweenTokens(t *testing.T) {
	for _, body := range bodies {
		l, e := mailaddr.Parse(strings.Join(body, " "))
		if e != api.OK {
			t.Fatalf("%q: %v", body, e)
		}
		for _, fill := range []string{" ", "\t", "\r\n ", "\r", "\n", "(x)", "()", " (x) ", "(x(y))", `(\))`, `(")`, "(<>@,;:.[])", "(a@b)", "(\x00\xff)", "\r\n\t(x)\r\n\t(y)\r\n\t", strings.Repeat("(", 100) + strings.Repeat(")", 100)} {
			has(t, fill+strings.Join(body, fill)+fill, pathsOf(l)...)
			for i := range len(body) + 1 {
				laid := slices.Insert(slices.Clone(body), i, fill)
				has(t, strings.Join(laid, " "), pathsOf(l)...)
				if i == 0 || i == len(body) || laid[i-1] != "N" {
					has(t, strings.Join(laid, ""), pathsOf(l)...)
				}
			}
		}
	}
}
