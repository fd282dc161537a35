package path_test

import (
	"strings"
	"testing"

	"waybill/api"
)

func TestP9_1Show(t *testing.T) {
	shows(t, null, "")
	shows(t, at("postmaster", ""), "postmaster")
	shows(t, at("a", "b"), "a@b")
	shows(t, at("A.b", "example.org"), "A.b@example.org")
	shows(t, at("Postmaster", "b"), "Postmaster@b")
	shows(t, at("postmaster", "b"), "postmaster@b")
	shows(t, at("a", "10.0.0.1"), "a@10.0.0.1") // a domain, as it stands in no brackets
	shows(t, at("a", "x-1.2-y"), "a@x-1.2-y")
	shows(t, at("a b", "c"), `"a b"@c`)
	shows(t, at(" ", "c"), `" "@c`)
	shows(t, at(`a"\`, "c"), `"a\"\\"@c`)
	shows(t, at(`""`, "c"), `"\"\""@c`)
	shows(t, at(`"a"`, "c"), `"\"a\""@c`)
	shows(t, at(`\a`, "c"), `"\\a"@c`)
	shows(t, at("a@b", "c"), `"a@b"@c`)
	shows(t, at("a>", "c"), `"a>"@c`)
	for _, local := range []string{".", "..", ".a", "a.", "a..b", ".a.b", "a.b.", "a.(b"} {
		shows(t, at(local, "c"), `"`+local+`"@c`)
	}
	for _, local := range []string{"a.b", "a.b.c", "!.#", "{.|.}", "*", "a=b"} {
		shows(t, at(local, "c"), local+"@c")
	}
}

func TestP9_1ShowLiteral(t *testing.T) {
	shows(t, atLiteral("a", "1.2.3.4"), "a@[1.2.3.4]")
	shows(t, atLiteral("a b", "0.0.0.0"), `"a b"@[0.0.0.0]`)
	shows(t, atLiteral("a", "::"), "a@[IPv6:::]")
	shows(t, atLiteral("x", "::1"), "x@[IPv6:::1]")
	shows(t, atLiteral("a", "2001:db8::1"), "a@[IPv6:2001:db8::1]")
	shows(t, atLiteral("postmaster", "1:2:3:4:5:6:7:8"), "postmaster@[IPv6:1:2:3:4:5:6:7:8]")
}

// TestP9_1EachByte: of each byte in a local part whether it may be, and whether it stands alone, in quotes, or behind a \.
func TestP9_1EachByte(t *testing.T) {
	eachByte(func(c byte, s string) {
		for _, x := range [][2]string{{"", ""}, {"a", ""}, {"", "a"}, {"a", "a"}, {"a.", ".b"}, {"\"", "\\"}} {
			p := at(x[0]+s+x[1], "b")
			escape := func(l ...string) string {
				return `"` + strings.ReplaceAll(strings.ReplaceAll(strings.Join(l, ""), `\`, `\\`), `"`, `\"`) + `"@b`
			}
			switch {
			case c < 32 || c > 126:
				notRight(t, api.ErrPathForm, p)
			case x[0] == "\"":
				shows(t, p, escape(x[0], s, x[1]))
			case isOneOf(c, ofAtom), p.Local == "a.a":
				shows(t, p, p.Local+"@b")
			default:
				shows(t, p, escape(x[0], s, x[1]))
			}
		}
	})
}

// TestP9_1EachByteOfDomain: no letter of the other kind may be there.
func TestP9_1EachByteOfDomain(t *testing.T) {
	eachByte(func(c byte, s string) {
		for _, x := range [][2]string{{"", ""}, {"b", ""}, {"", "b"}, {"b", "b"}, {"b.", ".b"}} {
			p := at("a", x[0]+s+x[1])
			isWithin := x[0] == "b" && x[1] == "b"
			switch {
			case isOneOf(c, small+digits), isWithin && (c == '-' || c == '.'):
				shows(t, p, "a@"+p.Domain)
			default:
				notRight(t, api.ErrPathForm, p)
			}
			if x[0]+x[1] != "" {
				notRight(t, api.ErrPathForm, atLiteral("a", p.Domain))
			}
		}
	})
}

// TestP9_1Wrong: each field wrong in turn.
func TestP9_1Wrong(t *testing.T) {
	notRight(t, api.ErrPathForm, api.Path{})
	notRight(t, api.ErrPathForm, api.Path{Null: true, Local: "a"}, api.Path{Null: true, Domain: "b"}, api.Path{Null: true, Literal: true}, api.Path{Null: true, Local: "a", Domain: "b"}, api.Path{Null: true, Local: "postmaster"}, api.Path{Null: true, Local: "a", Domain: "1.2.3.4", Literal: true}, api.Path{Null: true, Local: "\n"}, api.Path{Null: true, Local: strings.Repeat("a", 65)}, api.Path{Null: true, Domain: domainOf(256)})
	notRight(t, api.ErrPathForm, at("", "b"), atLiteral("", "1.2.3.4"), atLiteral("", "::1"), at("", "B"), atLiteral("", ""))
	notRight(t, api.ErrPathForm, at("a", ""), at("Postmaster", ""), at("POSTMASTER", ""), at("postmasteR", ""), at("postmaste", ""), at("postmasters", ""), at(" postmaster", ""), at("postmaster ", ""), at("postmaster@b", ""), at("a@b", ""), at("a b", ""), at(`"`, ""), at("po\u017ftmaster", ""), atLiteral("postmaster", ""), atLiteral("a", ""), at("<>", ""), at("postmaster>", ""))
	notRight(t, api.ErrPathForm, at("a\n", "b"), at("\x00", "b"), at("\x7f", "b"), at("\x1f", "b"), at("a\tb", "c"), at("\xff", "b"), at("\xc3\xa4", "b"), at("a b\r", "c"), at("\r\n", "b"))
	notRight(t, api.ErrPathForm, at("a", "B"), at("a", "b.C"), at("a", "Example.org"), at("a", "."), at("a", ".b"), at("a", "b."), at("a", "b..c"), at("a", "-"), at("a", "-b"), at("a", "b-"), at("a", "b-.c"), at("a", "b.-c"), at("a", " "), at("a", "b "), at("a", " b"), at("a", "b c"), at("a", "b_c"), at("a", "b>"), at("a", "b>c"), at("a", "@b"), at("a", "b@c"), at("a", "b\x00"), at("a", "\xc3\xa4"), at("a", "::1"), at("a", "b:c"), at("a", "[b]"), at("a", strings.Repeat("d", 64)), at("a", "b."+strings.Repeat("d", 64)))
	notRight(t, api.ErrPathForm, at("a", "[1.2.3.4]"), at("a", "[IPv6:::1]"), at("a", "IPv6:::1"), at("a", "::1]"))
	notRight(t, api.ErrPathForm, atLiteral("a", "b"), atLiteral("a", "[1.2.3.4]"), atLiteral("a", "IPv6:::1"), atLiteral("a", "ipv6:::1"), atLiteral("a", "1.2.3"), atLiteral("a", "1.2.3.256"), atLiteral("a", "01.2.3.4"), atLiteral("a", "1.2.3.4.5"), atLiteral("a", "1.2.3.4/32"), atLiteral("a", "1.2.3.0/24"), atLiteral("a", "1.2.3.4]"), atLiteral("a", "1.2.3.4 "), atLiteral("a", " 1.2.3.4"), atLiteral("a", "]"), atLiteral("a", "1.2.3.4]>"))
	notRight(t, api.ErrPathForm, atLiteral("a", "0:0::1"), atLiteral("a", "0::1"), atLiteral("a", "::0"), atLiteral("a", "::01"), atLiteral("a", "2001:DB8::1"), atLiteral("a", "::A"), atLiteral("a", "1::2:0:0:0:3"), atLiteral("a", "1:2:3:4:5:6:7::"), atLiteral("a", "::1/128"), atLiteral("a", "::/0"), atLiteral("a", ":"), atLiteral("a", ":::"), atLiteral("a", "1::2::3"), atLiteral("a", "::1.2.3.4"), atLiteral("a", "::g"), atLiteral("a", "::1]"), atLiteral("a", "::1%1"))
}

// TestP9_1Long: what is too long, and may be. What may not be is told ahead of that.
func TestP9_1Long(t *testing.T) {
	a := func(n int) string { return strings.Repeat("a", n) }
	shows(t, at(a(64), "b"), a(64)+"@b")
	shows(t, at(a(31)+"."+a(32), "b"), a(31)+"."+a(32)+"@b")
	shows(t, at(a(61)+" ", "b"), `"`+a(61)+` "@b`)
	shows(t, at(strings.Repeat(" ", 62), "b"), `"`+strings.Repeat(" ", 62)+`"@b`)
	shows(t, at(strings.Repeat(`"`, 31), "b"), `"`+strings.Repeat(`\"`, 31)+`"@b`)
	shows(t, at(strings.Repeat(`\`, 31), "b"), `"`+strings.Repeat(`\\`, 31)+`"@b`)
	shows(t, at(strings.Repeat(`\`, 30)+"aa", "b"), `"`+strings.Repeat(`\\`, 30)+`aa"@b`)
	long := []string{a(65), a(66), a(1 << 16), a(32) + "." + a(32), a(62) + " ", "." + a(62), strings.Repeat(" ", 63), strings.Repeat(`"`, 31) + "a", strings.Repeat(`"`, 32), strings.Repeat(`\`, 31) + "a", strings.Repeat(`\`, 1<<16)}
	for _, local := range long {
		notRight(t, api.ErrPathLong, at(local, "b"), atLiteral(local, "1.2.3.4"), atLiteral(local, "::1"), at(local, domainOf(256)))
		notRight(t, api.ErrPathForm, at(local, ""), at(local, "B"), at(local+"\n", "b"), atLiteral(local, "b"), atLiteral(local, ""), at(local, "b."), atLiteral(local, "0::0"), api.Path{Null: true, Local: local})
	}
	shows(t, at("a", domainOf(252)), "a@"+domainOf(252))
	shows(t, at(a(64), domainOf(189)), a(64)+"@"+domainOf(189))
	shows(t, at(" ", domainOf(250)), `" "@`+domainOf(250))
	notRight(t, api.ErrPathLong, at("a", domainOf(253)), at("a", domainOf(255)), at("a", domainOf(256)), at("a", domainOf(1<<16)), at(a(64), domainOf(190)), at(" ", domainOf(251)))
	notRight(t, api.ErrPathForm, at("", domainOf(256)), at("\n", domainOf(256)), at("a", domainOf(256)+"-"), at("a", domainOf(256)+"."), at("a", strings.ToUpper(domainOf(256))), atLiteral("a", domainOf(256)), api.Path{Null: true, Domain: domainOf(256)}, at("a", strings.Repeat("d", 256)))
}
