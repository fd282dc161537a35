package path_test

import (
	"strings"
	"testing"

	"waybill/api"
	"waybill/path"
)

// TestP9_2Examples is the chapter's table.
func TestP9_2Examples(t *testing.T) {
	if p, n, e := path.Parse("<a.b@Example.ORG> SIZE=1"); p != at("a.b", "example.org") || n != 17 || e != api.OK {
		t.Errorf("%+v %d %v", p, n, e)
	}
	parses(t, `<@x.org,@y.org:"a b"@[10.0.0.1]>`, atLiteral("a b", "10.0.0.1"))
	shows(t, atLiteral("a b", "10.0.0.1"), `"a b"@[10.0.0.1]`)
	parses(t, `<"a"@b>`, at("a", "b"))
	parses(t, `<"a\b"@c>`, at("ab", "c"))
	shows(t, at("ab", "c"), "ab@c")
	parses(t, "<>", null)
	parses(t, "<Postmaster>", at("postmaster", ""))
	noPath(t, api.ErrPathForm, "<a@b", "<a..b@c>", "<a@-b>", `<""@b>`, "<a>")
	params(t, " SIZE=10 body=8BITMIME", api.Param{Name: "SIZE", Value: "10", Has: true}, api.Param{Name: "BODY", Value: "8BITMIME", Has: true})
	noParams(t, api.ErrPathForm, " SIZE=", "SIZE=1")
}

func TestP9_2EachByteOfAtom(t *testing.T) {
	eachByte(func(c byte, s string) {
		for _, local := range []string{s, s + "a", "a" + s, "a" + s + "a", "a." + s + ".a", s + ".a", "a." + s} {
			switch {
			case isOneOf(c, ofAtom):
				boxes(t, local+"@b", at(local, "b"))
			case c == '.' && local == "a.a":
				boxes(t, "a.a@b", at("a.a", "b"))
			default:
				noBox(t, api.ErrPathForm, local+"@b")
			}
		}
	})
}

func TestP9_2EachByteOfQuoted(t *testing.T) {
	eachByte(func(c byte, s string) {
		for _, x := range [][2]string{{"", ""}, {"a", ""}, {"", "a"}, {"a ", " a"}} {
			text := `"` + x[0] + s + x[1] + `"@b`
			escaped := `"` + x[0] + `\` + s + x[1] + `"@b`
			want := at(x[0]+s+x[1], "b")
			switch {
			case c < 32 || c > 126:
				noBox(t, api.ErrPathForm, text, escaped)
			case c == '"':
				noBox(t, api.ErrPathForm, text)
				boxes(t, escaped, want)
			case c == '\\' && x[1] == "":
				noBox(t, api.ErrPathForm, text)
				boxes(t, escaped, want)
			case c == '\\':
				boxes(t, text, at(x[0]+x[1], "b")) // the byte behind it stands for itself
				boxes(t, escaped, want)
			default:
				boxes(t, text, want)
				boxes(t, escaped, want)
			}
		}
	})
}

func TestP9_2Locals(t *testing.T) {
	for _, local := range []string{"a", "A", "a.b", "a.b.c", "1.2", "-", "a-", "-.-", "a=b", "{}", "~.!", "#$%&'*+-/=?^_`{|}~", "aB.Cd", "postmaster", "Postmaster.x"} {
		boxes(t, local+"@b", at(local, "b")) // its letters as they are
		boxes(t, `"`+local+`"@b`, at(local, "b"))
	}
	for _, x := range [][2]string{{`" "`, " "}, {`"a b"`, "a b"}, {`"@"`, "@"}, {`"<>"`, "<>"}, {`"a@b>"`, "a@b>"}, {`"."`, "."}, {`".a"`, ".a"}, {`"a."`, "a."}, {`"a..b"`, "a..b"}, {`"\a\b"`, "ab"}, {`"\"\\"`, `"\`}, {`"\\\\"`, `\\`}, {`"\ "`, " "}, {`"(),:;[]"`, "(),:;[]"}, {`"[1.2.3.4]"`, "[1.2.3.4]"}} {
		boxes(t, x[0]+"@b", at(x[1], "b"))
	}
	noBox(t, api.ErrPathForm, ".@b", ".a@b", "a.@b", "a..b@b", "..@b", ".a.@b", "a...b@b", "a.b..c@b", "@b", `""@b`, `".a@b`, `a"@b`, `"a"b@b`, `a"b"@b`, `"a"."b"@b`, `a."b"@b`, `"a".b@b`, `"a""b"@b`, `"a" @b`, ` "a"@b`, `"@b`, `"`, `"""@b`, `"a\"@b`, `"\"@b`, `"\`, `"a\`, `"a`, `"a"`, `\"a"@b`, `\a@b`, "a b@c", "a@", "a@ ", "a@b@c", "a(x)@b", "a,b@c", "a:b@c", "<a@b>", "a@b ", " a@b", "a @b", "a@ b", "\"a\tb\"@c", "\"\xc3\xa4\"@b", "\xc3\xa4@b", "'a b'@c")
}

func TestP9_2Postmaster(t *testing.T) {
	for _, s := range []string{"postmaster", "Postmaster", "POSTMASTER", "pOsTmAsTeR", "postmasteR"} {
		boxes(t, s, at("postmaster", ""))
		boxes(t, s+"@B", at(s, "b")) // just alone it is taken in lower letters
		boxes(t, `"`+s+`"@b`, at(s, "b"))
		boxes(t, s+"@[1.2.3.4]", atLiteral(s, "1.2.3.4"))
		noBox(t, api.ErrPathForm, `"`+s+`"`, `"\`+s+`"`, s+"@", s+".", "."+s, s+" ", " "+s, s+"x", "x"+s, s[1:], s[:9], s+"."+s, s+"@-", s+":", "po\xc5\xbftmaster")
	}
	eachByte(func(c byte, s string) {
		if c != 'm' && c != 'M' && c != '@' {
			noBox(t, api.ErrPathForm, "post"+s+"aster")
		}
	})
	parses(t, "<postmaster>", at("postmaster", ""))
	noPath(t, api.ErrPathForm, "<postmaster", "<@postmaster>", "<@:postmaster>", "<@x.org>", "<@x.org:>", "postmaster>")
}

// TestP9_2LongLocal: what counts is the form, not how it stands in the text.
func TestP9_2LongLocal(t *testing.T) {
	a := func(n int) string { return strings.Repeat("a", n) }
	boxes(t, a(64)+"@b", at(a(64), "b"))
	boxes(t, a(31)+"."+a(32)+"@b", at(a(31)+"."+a(32), "b"))
	boxes(t, `"`+a(64)+`"@b`, at(a(64), "b"))
	boxes(t, `"`+strings.Repeat(`\a`, 64)+`"@b`, at(a(64), "b"))
	boxes(t, `" `+a(61)+`"@b`, at(" "+a(61), "b"))
	boxes(t, `"`+a(61)+`."@b`, at(a(61)+".", "b"))
	boxes(t, `"\"`+a(60)+`"@b`, at(`"`+a(60), "b"))
	boxes(t, `"\\`+a(60)+`"@b`, at(`\`+a(60), "b"))
	boxes(t, `"`+strings.Repeat(`\"`, 31)+`"@b`, at(strings.Repeat(`"`, 31), "b"))
	for _, local := range []string{a(65), a(100), a(32) + "." + a(32), `"` + a(65) + `"`, `"` + strings.Repeat(`\a`, 65) + `"`, `" ` + a(62) + `"`, `"` + a(62) + `."`, `"\"` + a(61) + `"`, `"\\` + a(61) + `"`, `"` + strings.Repeat(`\"`, 31) + `a"`, `"` + strings.Repeat(`\"`, 32) + `"`, `"` + strings.Repeat(`\ `, 63) + `"`} {
		noBox(t, api.ErrPathLong, local+"@b", local+"@[1.2.3.4]", local+"@[IPv6:::1]")
		noBox(t, api.ErrPathForm, local, local+"@", local+"@-", local+"@[::1]", local+"@b.", local+".@b")
	}
	noBox(t, api.ErrPathLong, a(1<<16)+"@b", `"`+strings.Repeat(`\"`, 1<<16)+`"@b`)
	noBox(t, api.ErrPathForm, a(1<<16), `"`+strings.Repeat(`\"`, 1<<16)+`@b`)
}

// TestP9_2LongDomain: a domain of 255 bytes is none too long, but then no path has room for it.
func TestP9_2LongDomain(t *testing.T) {
	for size := 1; size <= 252; size++ {
		domain := strings.ToUpper(domainOf(size))
		isBox(t, "a@"+domain, at("a", domainOf(size)))
		parses(t, "<a@"+domain+">", at("a", domainOf(size)))
	}
	for _, size := range []int{253, 254, 255, 256, 257, 300, 1 << 16} {
		noBox(t, api.ErrPathLong, "a@"+domainOf(size))
		noBox(t, api.ErrPathForm, "a@"+domainOf(size)+".", "a@"+domainOf(size)+".-", "@"+domainOf(size), "a."+"@"+domainOf(size))
	}
	noBox(t, api.ErrPathForm, "a@"+strings.Repeat("d", 64), "a@"+strings.Repeat("d", 256), "a@b."+strings.Repeat("d", 64)+".b")
}

// TestP9_2LongForm: the form with < and > has 256 bytes at most.
func TestP9_2LongForm(t *testing.T) {
	long := strings.Repeat("a", 64)
	for _, x := range []struct{ text, local, form string }{
		{"a", "a", "a"}, {"ab.c", "ab.c", "ab.c"}, {`"ab.c"`, "ab.c", "ab.c"}, {`"a b"`, "a b", `"a b"`}, {`"\"\\"`, `"\`, `"\"\\"`}, {`"\a\ "`, "a ", `"a "`}, {long, long, long},
	} {
		most := 253 - len(x.form)
		isBox(t, x.text+"@"+domainOf(most), at(x.local, domainOf(most)))
		shows(t, at(x.local, domainOf(most)), x.form+"@"+domainOf(most))
		for _, size := range []int{most + 1, most + 2, 255, 256, 1 << 16} {
			noBox(t, api.ErrPathLong, x.text+"@"+domainOf(size))
			notRight(t, api.ErrPathLong, at(x.local, domainOf(size)))
		}
	}
}

// TestP9_2LongText: a path's own text counts, too, also what is left out of it; a mailbox's does not.
func TestP9_2LongText(t *testing.T) {
	for _, size := range []int{255, 256} {
		parses(t, "<a@"+domainOf(size-4)+">", at("a", domainOf(size-4)))
		parses(t, "<@"+domainOf(size-7)+":a@b>", at("a", "b"))
		parses(t, "<@x,@"+domainOf(size-10)+":a@b>", at("a", "b"))
		parses(t, "<@x:a@"+domainOf(size-7)+">", at("a", domainOf(size-7)))
		parses(t, "<@"+domainOf(size-14)+":postmaster>", at("postmaster", ""))
		parses(t, `<"a"@`+domainOf(size-6)+">", at("a", domainOf(size-6)))
		parses(t, `<"\a"@`+domainOf(size-7)+">", at("a", domainOf(size-7)))
	}
	for _, size := range []int{257, 258, 300, 1 << 16} {
		noPath(t, api.ErrPathLong, "<a@"+domainOf(size-4)+">", "<@"+domainOf(size-7)+":a@b>", "<@x,@"+domainOf(size-10)+":a@b>", "<@x:a@"+domainOf(size-7)+">", "<@"+domainOf(size-14)+":postmaster>", `<"a"@`+domainOf(size-6)+">", `<"\a"@`+domainOf(size-7)+">", "<"+strings.Repeat("@x,", (size-7)/3)+"@x:a@b>")
		noPath(t, api.ErrPathForm, "<a@"+domainOf(size-4), "<@"+domainOf(size-7)+":a@b", "<@"+domainOf(size-7)+":>", "<@"+domainOf(size-7)+":a>", "<@"+domainOf(size-7)+">", "<a@"+domainOf(size-4)+" >")
	}
	isBox(t, `"a"@`+domainOf(252), at("a", domainOf(252)))
	isBox(t, `"\a"@`+domainOf(252), at("a", domainOf(252)))
	isBox(t, `"`+strings.Repeat(`\a`, 64)+`"@`+domainOf(189), at(strings.Repeat("a", 64), domainOf(189)))
	noPath(t, api.ErrPathLong, `<"a"@`+domainOf(252)+">", `<"`+strings.Repeat(`\a`, 64)+`"@`+domainOf(189)+">")
	if p, n, e := path.Parse("<a@b>" + strings.Repeat(" x", 1<<16)); p != at("a", "b") || n != 5 || e != api.OK { // what stands behind does not count
		t.Errorf("%+v %d %v", p, n, e)
	}
}

func TestP9_2Routes(t *testing.T) {
	for _, route := range []string{"@x.org:", "@X.org:", "@x:", "@x,@y:", "@x.org,@y.org,@z.org:", "@x,@x,@x:", "@1.2.3.4:", "@" + strings.Repeat("x", 63) + ":", strings.Repeat("@x,", 70) + "@x:"} {
		parses(t, "<"+route+"a@B>", at("a", "b"))
		parses(t, "<"+route+`"a b"@B>`, at("a b", "b"))
		parses(t, "<"+route+"a@[1.2.3.4]>", atLiteral("a", "1.2.3.4"))
		parses(t, "<"+route+"Postmaster>", at("postmaster", ""))
		noPath(t, api.ErrPathForm, "<"+route+">", "<"+route, "<"+route+"a>", "<"+route+"a@>", "<"+route+"@b>", "<"+route+":a@b>", "<"+route+route+"a@b>", "<"+route+" a@b>", "< "+route+"a@b>", "<"+route+"<a@b>>", route+"a@b", route+"<a@b>")
		if p, e := path.Mailbox(route + "a@b"); p != (api.Path{}) || e != api.ErrPathForm {
			t.Errorf("Mailbox(%sa@b): %+v %v", short(route), p, e)
		}
	}
	for _, route := range []string{"@", ":", "@:", ",", "@x", "@x ", "@x,", "@x,:", "@x,y:", "@x@y:", "@x,@:", "@,@x:", ",@x:", "@x,,@y:", "@x, @y:", "@x ,@y:", "@x: ", "@x :", " @x:", "@ x:", "x:", "x,@y:", "@x;", "@x,@y", "@x:@y:", "@x:,@y:", "@x,@y,:", "@-x:", "@x-:", "@x.:", "@.x:", "@x..y:", "@x_y:", "@x,@-y:", "@x,@y.:", "@[1.2.3.4]:", "@[IPv6:::1]:", "@x,@[1.2.3.4]:", "@[1.2.3.4],@x:", "@" + strings.Repeat("x", 64) + ":", "@x,@" + strings.Repeat("x", 64) + ":", "@a@b:", "@\"x\":", "@<x>:"} {
		noPath(t, api.ErrPathForm, "<"+route+"a@b>", "<"+route+"postmaster>", "<"+route+">")
	}
}

// TestP9_2EachByteOfRoute puts each byte in the place of each one of a path with a route.
func TestP9_2EachByteOfRoute(t *testing.T) {
	const s = "<@x.y,@z:a@b>"
	eachByte(func(c byte, one string) {
		for i := range len(s) {
			text := s[:i] + one + s[i+1:]
			_, _, e := path.Parse(text)
			isRight := s[i] == c || i == 1 && c == '>' // <> is a path
			switch s[i] {
			case 'x', 'y', 'z', 'b':
				isRight = isOneOf(c, ofLabel)
			case '.':
				isRight = isOneOf(c, ofLabel+".-")
			case 'a':
				isRight = isOneOf(c, ofAtom)
			}
			if isRight != (e == api.OK) || !isRight && e != api.ErrPathForm {
				t.Errorf("Parse(%q): %v", text, e)
			}
		}
	})
}

func TestP9_2Null(t *testing.T) {
	parses(t, "<>", null)
	isBox(t, "", null)
	noPath(t, api.ErrPathForm, "", "<", ">", "< >", "<  >", "<\t>", "<\x00>", "<\"\">", "<@>", "<.>", "<,>", "<:>", "<<>>", " <>", "x<>", "><", "\x00<>")
	for _, s := range []string{"<>", "< >", " ", "<", ">", "@", "\x00", "\n"} {
		if p, e := path.Mailbox(s); p != (api.Path{}) || e != api.ErrPathForm {
			t.Errorf("Mailbox(%q): %+v %v", s, p, e)
		}
	}
}

// TestP9_2Torn: no piece of a path ahead of its > is one.
func TestP9_2Torn(t *testing.T) {
	for _, s := range []string{"<>", "<a.b@c.d>", `<"a\"b>"@c>`, "<@x.org,@y.org:a@[IPv6:2001:db8::1]>", "<postmaster>", "<a@[10.0.0.1]>"} {
		for n := range len(s) {
			noPath(t, api.ErrPathForm, s[:n], s[1:n+1])
		}
		if p, n, e := path.Parse(s); n != len(s) || e != api.OK {
			t.Errorf("%s: %+v %d %v", s, p, n, e)
		}
	}
}

// TestP9_2Behind: a path is the front of a text, a mailbox all of it.
func TestP9_2Behind(t *testing.T) {
	eachByte(func(c byte, s string) {
		for text, want := range map[string]api.Path{"<a@b>": at("a", "b"), "<>": null, "<Postmaster>": at("postmaster", ""), "<a@[1.2.3.4]>": atLiteral("a", "1.2.3.4")} {
			if p, n, e := path.Parse(text + s); p != want || n != len(text) || e != api.OK {
				t.Errorf("Parse(%q): %+v %d %v", text+s, p, n, e)
			}
			noPath(t, api.ErrPathForm, s+text)
		}
		for _, text := range []string{"a@b", "postmaster", "a@[1.2.3.4]", `"a"@b`} {
			p, e := path.Mailbox(text + s)
			if isDomain := text[len(text)-1] == 'b' && isOneOf(c, ofLabel); isDomain != (e == api.OK) {
				t.Errorf("Mailbox(%q): %+v %v", text+s, p, e)
			}
			p, e = path.Mailbox(s + text)
			if isAtom := text[0] == 'a' && isOneOf(c, ofAtom); isAtom != (e == api.OK) {
				t.Errorf("Mailbox(%q): %+v %v", s+text, p, e)
			}
		}
	})
}
