package mailaddr_test

import (
	"strings"
	"testing"

	"waybill/api"
)

// TestP10_1ByteBetweenTokens: ahead of a list, between two tokens of it, behind it.
func TestP10_1ByteBetweenTokens(t *testing.T) {
	eachByte(func(c byte, s string) {
		switch {
		case isOneOf(c, blanks), c == ',':
			parses(t, s+"a@b", addr(at("a", "b"), 1, 4, ""))
			parses(t, "a@b"+s, addr(at("a", "b"), 0, 3, ""))
		case isOneOf(c, ofAtom):
			is(t, s+"a@b", at(s+"a", "b"))
		default:
			noForm(t, s+"a@b", "a@b"+s)
		}
		switch {
		case isOneOf(c, ofLabel):
			is(t, "a@b"+s, at("a", "b"+strings.ToLower(s)))
		case !isOneOf(c, blanks+","):
			noForm(t, "a@b"+s)
		}
		switch {
		case isOneOf(c, blanks), c == '.':
			parses(t, `"q"`+s+"<a@b>", addr(at("a", "b"), 5, 8, `"q"`))
		case isOneOf(c, ofAtom), c >= 128:
			parses(t, `"q"`+s+"<a@b>", addr(at("a", "b"), 5, 8, `"q"`+s))
		default:
			noForm(t, `"q"`+s+"<a@b>")
		}
		switch {
		case isOneOf(c, blanks):
			is(t, `"q"`+s+"@b", at("q", "b"))
			is(t, `"q"@`+s+"b", at("q", "b"))
			is(t, `"q"@b.`+s+"c", at("q", "b.c"))
			is(t, `"q".`+s+`"r"@b`, at("q.r", "b"))
			parses(t, "<a@b"+s+">", addr(at("a", "b"), 1, 4, ""))
			parses(t, "x"+s+":"+s+"a@b"+s+";"+s+",c@d", addr(at("a", "b"), 4, 7, ""), addr(at("c", "d"), 11, 14, ""))
		case !isOneOf(c, ofAtom):
			noForm(t, `"q"`+s+"@b", `"q".`+s+`"r"@b`, `"q"@`+s+"b")
		}
	})
}

func TestP10_1ByteInAtom(t *testing.T) {
	eachByte(func(c byte, s string) {
		switch {
		case isOneOf(c, ofAtom+blanks), c >= 128, c == '.':
			parses(t, "x"+s+"y <a@b>", addr(at("a", "b"), 5, 8, "x"+s+"y"))
		default:
			noForm(t, "x"+s+"y <a@b>")
		}
		switch {
		case isOneOf(c, ofAtom), c >= 128:
			parses(t, s+" <a@b>", addr(at("a", "b"), 3, 6, s))
			parses(t, s+":<a@b>;", addr(at("a", "b"), 3, 6, ""))
			parses(t, "<@"+s+"."+s+":a@b>", addr(at("a", "b"), 6, 9, ""))
		default:
			noForm(t, "<@"+s+"."+s+":a@b>")
		}
		switch {
		case isOneOf(c, ofAtom), c == '.':
			is(t, "x"+s+"y@b", at("x"+s+"y", "b"))
		default:
			noForm(t, "x"+s+"y@b")
		}
		switch {
		case isOneOf(c, ofLabel), c == '-', c == '.':
			is(t, "a@x"+s+"y", at("a", "x"+strings.ToLower(s)+"y"))
		default:
			noForm(t, "a@x"+s+"y")
		}
	})
	for _, high := range []string{"\x80", "\xff", "\xc3\xa4", "\xe2\x84\xaa", "\xff\xfe\x80"} {
		parses(t, high+"x"+high+" <a@b>", addr(at("a", "b"), 2*len(high)+3, 2*len(high)+6, high+"x"+high))
		parses(t, "g"+high+":a@b;", addr(at("a", "b"), len(high)+2, len(high)+5, ""))
		noForm(t, high+"@b", "a"+high+"@b", high+"a@b", "a."+high+"@b", "a@"+high, "a@b"+high, "a@"+high+"b", "a@b."+high, "<"+high+"@b>", "<a@"+high+">", high)
	}
}

func TestP10_1ByteInQuoted(t *testing.T) {
	eachByte(func(c byte, s string) {
		text := `"x` + s + `y"`
		isToken := c != '"' && (isOneOf(c, blanks) || c >= 32 && c != 127)
		switch {
		case isToken:
			parses(t, text+"<a@b>", addr(at("a", "b"), 6, 9, text))
			parses(t, text+":a@b;", addr(at("a", "b"), 6, 9, ""))
		default:
			noForm(t, text+"<a@b>", text+":a@b;")
		}
		switch {
		case !isToken, c >= 128:
			noForm(t, text+"@b")
		case c == '\t':
			is(t, text+"@b", at("x y", "b"))
		case c == '\r', c == '\n', c == '\\': // this one stands ahead of the y
			is(t, text+"@b", at("xy", "b"))
		default:
			is(t, text+"@b", at("x"+s+"y", "b"))
		}
	})
}

func TestP10_1ByteBehindBackslash(t *testing.T) {
	eachByte(func(c byte, s string) {
		text := `"x\` + s + `y"`
		switch {
		case c == '\r', c == '\n':
			noForm(t, text+"<a@b>", text+":a@b;")
		default:
			parses(t, text+"<a@b>", addr(at("a", "b"), 7, 10, text))
			parses(t, text+":a@b;", addr(at("a", "b"), 7, 10, ""))
		}
		switch {
		case c == '\t':
			is(t, text+"@b", at("x y", "b"))
		case 32 <= c && c <= 126:
			is(t, text+"@b", at("x"+s+"y", "b"))
		default:
			noForm(t, text+"@b")
		}
	})
}

func TestP10_1Quoted(t *testing.T) {
	parses(t, `""<a@b>`, addr(at("a", "b"), 3, 6, `""`))
	parses(t, `"":a@b;`, addr(at("a", "b"), 3, 6, ""))
	parses(t, `"""" "" <a@b>`, addr(at("a", "b"), 9, 12, `"""" ""`))
	is(t, `"".a@b`, at(".a", "b"))
	is(t, `a.""@b`, at("a.", "b"))
	is(t, `"".""@b`, at(".", "b"))
	is(t, `" "@b`, at(" ", "b"))
	is(t, "\"\t\"@b", at(" ", "b"))
	is(t, "\"\\\t\"@b", at(" ", "b"))
	is(t, "\"a\r\n\tb\"@b", at("a b", "b"))
	is(t, "\"\r\na\n\r\"@b", at("a", "b"))
	is(t, `"\\"@b`, at(`\`, "b"))
	is(t, `"\""@b`, at(`"`, "b"))
	is(t, `"a"@b`, at("a", "b"))
	is(t, `"a.b"@c`, at("a.b", "c"))
	is(t, `"\a\.\b"@c`, at("a.b", "c"))
	is(t, `"(x)"@b`, at("(x)", "b"))
	is(t, `"<a@b>, c:;"@b`, at("<a@b>, c:;", "b"))
	noForm(t, `""@b`, `"" ""@b`, "\"\r\n\"@b", "\"\r\"@b", "\"\n\"@b", `<""@b>`)
	noForm(t, `"`, `"a`, `"a@b`, `"a\"`, `"a\"@b`, `"\`, `"a\`, `"\"`, `"\\\"@b`, `a"@b`, `"a""@b`, `a@b"`, `"a\`+"\r", `"a\`+"\n\"@b", "\"a\\\r\n\"@b", `<a@b>"`, `a@"b"`, `a@b."c"`, `"`+strings.Repeat("a", 65535), strings.Repeat(`"`, 65535))
}

// TestP10_1ByteInLiteral: a route's literal is a token and no more; an address's must be a literal of a path.
func TestP10_1ByteInLiteral(t *testing.T) {
	eachByte(func(c byte, s string) {
		switch {
		case 33 <= c && c <= 126 && !isOneOf(c, `[]\`):
			parses(t, "<@[x"+s+"y]:a@b>", addr(at("a", "b"), 8, 11, ""))
		default:
			noForm(t, "<@[x"+s+"y]:a@b>")
		}
		switch {
		case c == '.':
			is(t, "a@[1"+s+"2.3.4]", atLiteral("a", "1.2.3.4"))
			noForm(t, "a@[1.2.3.4"+s+"]")
		case '0' <= c && c <= '9':
			is(t, "a@[1.2.3.4"+s+"]", atLiteral("a", "1.2.3.4"+s))
			noForm(t, "a@[1"+s+"2.3.4]")
		default:
			noForm(t, "a@[1"+s+"2.3.4]", "a@[1.2.3.4"+s+"]", "a@["+s+"1.2.3.4]")
		}
	})
}

func TestP10_1Literals(t *testing.T) {
	for s, want := range map[string]string{"[10.0.0.1]": "10.0.0.1", "[255.255.255.255]": "255.255.255.255", "[IPv6:::1]": "::1", "[ipV6:2001:DB8::0:1]": "2001:db8::1", "[IPv6:1::3:4:5:6:7:8]": "1:0:3:4:5:6:7:8"} {
		is(t, "a@"+s, atLiteral("a", want))
		is(t, `"a b" . c @ `+s, atLiteral("a b.c", want))
		n := len(s)
		parses(t, "x <a@"+s+">", addr(atLiteral("a", want), 3, 5+n, "x"))
		parses(t, " a@(x) \r\n"+s+"(y) ", addr(atLiteral("a", want), 1, 9+n, ""))
		parses(t, "<@"+s+":a@b>", addr(at("a", "b"), 3+n, 6+n, ""))
		noForm(t, s, s+"@b", "a."+s+"@b", "a@"+s+"b", "a@b"+s, "a@b."+s, "a@"+s+".b", "a@"+s+s, "a@"+s+" "+s, s+" <a@b>", "x "+s+" <a@b>", s+":a@b;", "a@b "+s, s+"a@b", "<"+s+"a@b>", "<@b."+s+":a@b>", "<@"+s+".b:a@b>")
		for i := 1; i < n; i++ {
			noForm(t, "a@"+s[:i]+" "+s[i:], "a@"+s[:i]+"(x)"+s[i:], "a@"+s[:i]+"\t"+s[i:], "a@"+s[:i]+"\r\n "+s[i:], "a@"+s[:i], "a@"+s[i:])
		}
	}
	parses(t, "<@[]:a@b>", addr(at("a", "b"), 5, 8, ""))
	parses(t, "<@[(x)]:a@b>", addr(at("a", "b"), 8, 11, ""))
	noForm(t, "a@[]", "a@[", "a@]", "a@[[1.2.3.4]]", "a@[1.2.3.4]]", "a@[1.2.3.4", "a@[::1]", "a@[IPv6:1.2.3.4]", "a@[1.2.3]", "a@[b]", "a@[1.2.3.0/24]", "a@[1.2.3.4(x)]", "a@1.2.3.4]", `a@[1.2.3.4\]`, "a@["+strings.Repeat("1", 65533), "a@["+strings.Repeat("1", 65532)+"]", "a@"+strings.Repeat("[", 65534))
}

func TestP10_1ByteInComment(t *testing.T) {
	eachByte(func(c byte, s string) {
		switch c {
		case '(', ')':
			noForm(t, "a@b(x"+s+"y)", "("+s+")a@b")
		case '\\':
			noForm(t, "("+s+")a@b")
			parses(t, "a@b(x"+s+"y)", addr(at("a", "b"), 0, 3, ""))
		default:
			parses(t, "a@b(x"+s+"y)", addr(at("a", "b"), 0, 3, ""))
			parses(t, "("+s+")a@b", addr(at("a", "b"), 3, 6, ""))
			parses(t, "(("+s+")"+s+")a@b", addr(at("a", "b"), 6, 9, ""))
		}
		parses(t, "a@b(x\\"+s+"y)", addr(at("a", "b"), 0, 3, ""))
		parses(t, "a@b((\\"+s+")\\"+s+")", addr(at("a", "b"), 0, 3, ""))
		parses(t, "(\\"+s+")a@b", addr(at("a", "b"), 4, 7, ""))
	})
}

func TestP10_1Comments(t *testing.T) {
	for _, s := range []string{"()", "(x)", "(())", "(()())", "(a(b(c)d)e)", "()()", `(\))`, `(\()`, `(\\)`, `(\\(\\)\\)`, `(\(\)\()`, `(")`, `("")`, "([)", "(])", "(<)", "(a@b)", "(,)", "(;:.)", "(\x00\x7f\xff)", "(\r\n)", "(\\\r\n)", strings.Repeat("(", 30000) + strings.Repeat(")", 30000), strings.Repeat("()", 30000)} {
		n := len(s)
		has(t, s)
		parses(t, s+"a@b", addr(at("a", "b"), n, n+3, ""))
		parses(t, "a@b"+s, addr(at("a", "b"), 0, 3, ""))
		is(t, "a@"+s+"b", at("a", "b"))
		is(t, "a"+s+"@b", at("a", "b"))
		noForm(t, s+")", "("+s, s+"(", ")"+s, s+"(x", s+`(\)`, s+`(\`, "a"+s+"b@c", "a@b"+s+"c", "a"+s)
		if n < 30000 {
			parses(t, s+s+"a@b", addr(at("a", "b"), 2*n, 2*n+3, ""))
			parses(t, "("+s+")a@b", addr(at("a", "b"), n+2, n+5, ""))
		}
	}
	noForm(t, "(", ")", ")(", "(()", "())", `(\`, `(\)`, `(a\`, `((\)`, `a@b(\`, `a@b(\)`, `a@b (\\`, "(a@b", "a@b)", "a@b(x))", "a@b(x", `"(" a@b`, `a@b ")`, `(")")`, strings.Repeat("(", 65536), strings.Repeat(")", 65536), "("+strings.Repeat(`\`, 65535), "("+strings.Repeat(`\`, 65534))
	parses(t, `"(" <a@b>`, addr(at("a", "b"), 5, 8, `"("`))
	parses(t, `")" <a@b>`, addr(at("a", "b"), 5, 8, `")"`))
	parses(t, `(" a@b ") <c@d> (")`, addr(at("c", "d"), 11, 14, ""))
	noForm(t, `(") a@b ") <c@d> (")`)
	parses(t, "(a@b, c@d) e@f", addr(at("e", "f"), 11, 14, ""))
}

// TestP10_1Sizes: bodies of as many bytes as may be, and one more.
func TestP10_1Sizes(t *testing.T) {
	fill := func(n int) string { return strings.Repeat(" ", n) }
	parses(t, fill(65536))
	parses(t, "a@b"+fill(65533), addr(at("a", "b"), 0, 3, ""))
	parses(t, fill(65533)+"a@b", addr(at("a", "b"), 65533, 65536, ""))
	parses(t, "a@"+fill(65533)+"b", addr(at("a", "b"), 0, 65536, ""))
	parses(t, strings.Repeat(",", 65536))
	parses(t, "("+strings.Repeat("x", 65534)+")")
	parses(t, `"`+strings.Repeat("x", 65529)+`"<a@b>`, addr(at("a", "b"), 65532, 65535, `"`+strings.Repeat("x", 65529)+`"`))
	parses(t, strings.Repeat("x", 65531)+"<a@b>", addr(at("a", "b"), 65532, 65535, strings.Repeat("x", 65531)))
	parses(t, strings.Repeat("x", 65534)+":;")
}

// TestP10_1Long: that a body is too long is told ahead of all else.
func TestP10_1Long(t *testing.T) {
	for _, n := range []int{65537, 65538, 1 << 17, 1 << 20} {
		for _, s := range []string{" ", ",", "(", ")", "\x00", "a@b,", "a", `"`, "[", "<"} {
			noList(t, api.ErrMailLong, strings.Repeat(s, n)[:n])
		}
		noList(t, api.ErrMailLong, "a@b"+strings.Repeat(" ", n-3), strings.Repeat(" ", n-3)+"a@b")
	}
}
