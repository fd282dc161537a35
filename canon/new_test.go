package canon_test

import (
	"fmt"
	"slices"
	"strings"
	"testing"

	"waybill/api"
	"waybill/canon"
)

var postmaster = at("postmaster", "")

func TestP15_1Hostnames(t *testing.T) {
	label := strings.Repeat("l", 63)
	for _, name := range []string{host, "mx", "a", "1", "a-1.b", "10.0.0.1", "x--y", "0-0", label, label + "." + label, domainOf(64), domainOf(243)} {
		calls(t, made(t, name), postmaster, at("postmaster", name))
	}
	for _, size := range []int{200, 244, 254, 255} {
		made(t, domainOf(size))
	}
	for _, name := range []string{"MX", "mx.Example", "Mx.example", "mx.examplE", "[10.0.0.1]", "[IPv6:::1]", "[]", "", ".", "mx.", ".mx", "mx..example", "-mx", "mx-", "mx.-example", "mx-.example", "mx_example", "mx example", " mx", "mx ", "mx\n", "mx\x00", "@mx", "a@mx", "<mx>", "mx,my", "mx:25", "\u017f", "\u212a", "\u00e9", "\xff", label + "l", "a." + label + "l.b", domainOf(256), domainOf(257), domainOf(1000), strings.ToUpper(domainOf(20)), xs(1 << 16)} {
		refuses(t, api.ErrArg, name)
		refuses(t, api.ErrArg, name, given)
	}
}

func TestP15_1HostnameBytes(t *testing.T) {
	eachByte(func(c byte, s string) {
		switch {
		case isOneOf(c, "abcdefghijklmnopqrstuvwxyz0123456789"):
			for _, name := range []string{s, "a" + s, s + "a", "a." + s, s + ".a"} {
				calls(t, made(t, name), postmaster, at("postmaster", name))
			}
		case isOneOf(c, "-."):
			refuses(t, api.ErrArg, s)
			refuses(t, api.ErrArg, "a"+s)
			refuses(t, api.ErrArg, s+"a")
			made(t, "a"+s+"b")
		default:
			for _, name := range []string{s, "a" + s, s + "a", "a" + s + "b", "a." + s} {
				refuses(t, api.ErrArg, name)
			}
		}
	})
}

// TestP15_1HowMany: each of the tables is asked, and there are no more than 8.
func TestP15_1HowMany(t *testing.T) {
	var l []string
	for n := range 9 {
		c := made(t, host, l...)
		for i := range 9 {
			want := at("a", fmt.Sprintf("x%d", i))
			if i < n {
				want = at(fmt.Sprintf("b%d", i), "y")
			}
			calls(t, c, at("a", fmt.Sprintf("x%d", i)), want)
		}
		l = append(l, rows(fmt.Sprintf("a@x%d b%d@y", n, n)))
	}
	refuses(t, api.ErrArg, host, l...)
	for _, n := range []int{9, 10, 16, 1000} {
		refuses(t, api.ErrArg, host, make([]string, n)...)
	}
	made(t, host, make([]string, 8)...)
}

// someFaults are tables with each kind of fault that table.Parse tells.
func someFaults() []string {
	var many strings.Builder
	for i := range 2001 {
		fmt.Fprintf(&many, "k%d @y\n", i)
	}
	return []string{
		"\xc8", "a@x b@y\n\xc8", "a@x b@y\r\n", "a@x b@y\x00\n", "# \x7f\n", "#\u00e9\n",
		" b@y\n", "\n\t@y", "# x\n b@y\n",
		"a@x", "a@x\n", "a@x b@y\nb@x\n", "a@x \t \n",
		xs(321) + " b@y\n", "a@x " + xs(1001) + "\n", "a@x " + xs(1000) + "\n " + "b@y\n",
		rows("a@x b@y", "a@x b@y"), rows("a@x b@y", "A@X c@y"), rows("@x @y", "b@x c@y", "@X @y"),
		many.String(),
		strings.Repeat("#", 1<<18+1), "a@x b@y\n" + strings.Repeat("\n", 1<<18),
	}
}

// around wants a table to be refused wherever it stands among others.
func around(t *testing.T, text string) {
	t.Helper()
	refuses(t, api.ErrCanonForm, host, text)
	refuses(t, api.ErrCanonForm, host, text, given)
	refuses(t, api.ErrCanonForm, host, given, text)
	refuses(t, api.ErrCanonForm, host, given, text, given)
	refuses(t, api.ErrCanonForm, host, append(slices.Repeat([]string{given}, 7), text)...)
	refuses(t, api.ErrCanonForm, host, text, text)
}

func TestP15_1Faults(t *testing.T) {
	for _, text := range someFaults() {
		around(t, text)
	}
}

func TestP15_1RightTables(t *testing.T) {
	var many strings.Builder
	for i := range 2000 {
		fmt.Fprintf(&many, "a@x%d b%d@y\n", i, i)
	}
	c := made(t, host, many.String())
	for i := range 2001 {
		want := at(fmt.Sprintf("b%d", i), "y")
		if i == 2000 {
			want = at("a", "x2000")
		}
		calls(t, c, at("a", fmt.Sprintf("x%d", i)), want)
	}
	made(t, host, slices.Repeat([]string{many.String()}, 8)...)
	for _, text := range []string{"", "\n", "\n\n\n", " \t \n", "# a@x b@y\n", "#", "# postmaster\n\n  # \n", strings.Repeat("#", 1<<18), "\t# x"} {
		c := made(t, host, text)
		stays(t, c, at("a", "x"), at("a", "x.example"))
		calls(t, c, postmaster, at("postmaster", host))
		calls(t, made(t, host, text, given, text), at("a", "x.example"), at("b", "y.example"))
	}
	for _, text := range []string{"a@x b@y", "a@x\tb@y\n", "A@X   b@y  \n", "a@x\n b@y\n", "# t\na@x\n\n\t b@y\n# u\n", "a@x b@y\n\n"} {
		calls(t, made(t, host, text), at("a", "x"), at("b", "y"))
	}
}

func TestP15_1Values(t *testing.T) {
	l64 := strings.Repeat("l", 64)
	for value, want := range map[string]api.Path{
		"b@y":                                  at("b", "y"),
		"B@Y.Example":                          at("B", "y.example"),
		"b.c@y":                                at("b.c", "y"),
		`"b c"@y`:                              at("b c", "y"),
		"\"b\n c\"@y":                          at("b c", "y"),
		`"b  c"@y`:                             at("b  c", "y"),
		`"b"@y`:                                at("b", "y"),
		`"\b\"\\"@y`:                           at(`b"\`, "y"),
		`"@z"@y`:                               at("@z", "y"),
		`"a@z"@y`:                              at("a@z", "y"),
		`"#"@y`:                                at("#", "y"),
		"b@[10.0.0.1]":                         atLiteral("b", "10.0.0.1"),
		"b@[ipv6:2001:DB8::0:1]":               atLiteral("b", "2001:db8::1"),
		"postmaster@y":                         at("postmaster", "y"),
		`"postmaster"@y`:                       at("postmaster", "y"),
		"PostMaster@Y":                         at("PostMaster", "y"),
		"@y":                                   at("a", "y"),
		"@Y.EXAMPLE":                           at("a", "y.example"),
		"@10.0.0.1":                            at("a", "10.0.0.1"),
		"@x":                                   at("a", "x"),
		"a@x":                                  at("a", "x"),
		l64 + "@y":                             at(l64, "y"),
		`"` + l64[4:] + ` "@y`:                 at(l64[4:]+" ", "y"),
		"b@" + domainOf(252):                   at("b", domainOf(252)),
		l64 + "@" + domainOf(189):              at(l64, domainOf(189)),
		"@" + domainOf(252):                    at("a", domainOf(252)),
		`"` + strings.Repeat(`\l`, 64) + `"@y`: at(l64, "y"),
	} {
		calls(t, made(t, host, "a@x "+value+"\n"), at("a", "x"), want)
	}
	for _, size := range []int{253, 254, 255} { // one that may be, even if it stands in nobody's place
		stays(t, made(t, host, "a@x @"+domainOf(size)+"\n"), at("a", "x"))
	}
}

func TestP15_1WrongValues(t *testing.T) {
	l64 := strings.Repeat("l", 64)
	for _, value := range []string{
		"postmaster", "Postmaster", "POSTMASTER", `"postmaster"`, "<>", "<b@y>", "<@z:b@y>", `""`, `""@y`,
		"@", "@[10.0.0.1]", "@[IPv6:::1]", "[10.0.0.1]", "b@[10.0.0]", "b@[]", "b@[y]", "b@[::1]",
		"b", "b@", "y.example", ".y", "@.y", "@y.", "@y..z", "@-y", "@y-", "@y_z", "@@y", "b@@y", "@y@z", "b@y@z", "@b@y", "@y:", "@y,@z:b@y",
		"b@y c@z", "b@y, c@z", "b@y,c@z", "b@y,", ",b@y", "b@y;", "@y z", "@y @z", "@y b@y", "b@y.", "b@-y", "b c@y", "b@ y", "b @y", "@ y",
		"b..c@y", ".b@y", "b.@y", `"b@y`, `b"@y`, `"b"c@y`, `"b".c@y`, `b."c"@y`, "\"b\tc\"@y", "(x) b@y", "b@y (x)", "J <b@y>", "mailto:b@y", "b@y # x", "#", "# b@y",
		l64 + "l@y", `"` + l64[2:] + ` "@y`, "b@" + domainOf(253), "b@" + domainOf(255), "b@" + domainOf(256), l64 + "@" + domainOf(190), "@" + domainOf(256), "@" + domainOf(300), "@" + strings.Repeat("l", 64), xs(1000), "@" + xs(999), "b@" + strings.Repeat("y.", 499),
	} {
		around(t, "a@x "+value+"\n")
		around(t, "a@x\n "+value)
		around(t, rows("a@x b@y", "b@x "+value, "c@x b@y"))
		around(t, rows("a@x "+value, "b@x b@y"))
		around(t, rows("a@x b@y", "any "+value))
		around(t, rows("# x", "@x @y", "@z "+value))
	}
	around(t, rows("a@x b@y", " c@z"))
	around(t, rows("a@x @y", " @z"))
}

// TestP15_1ManyValues: no value is left out, wherever it stands among many.
func TestP15_1ManyValues(t *testing.T) {
	for _, at := range []int{0, 1, 2, 999, 1998, 1999} {
		var text strings.Builder
		for i := range 2000 {
			value := "@y"
			if i == at {
				value = "y"
			}
			fmt.Fprintf(&text, "k%04d %s\n", i, value)
		}
		around(t, text.String())
	}
}

func TestP15_1ValueBytes(t *testing.T) {
	const ofLabel = "abcdefghijklmnopqrstuvwxyzABCDEFGHIJKLMNOPQRSTUVWXYZ0123456789"
	const ofAtom = ofLabel + "!#$%&'*+-/=?^_`{|}~"
	eachByte(func(c byte, s string) {
		if isOneOf(c, ofAtom) {
			calls(t, made(t, host, "a@x "+s+"@y\n"), at("a", "x"), at(s, "y"))
		} else if s != " " && s != "\t" && s != "\n" {
			refuses(t, api.ErrCanonForm, host, "a@x b"+s+"@y\n")
		}
		switch {
		case isOneOf(c, ofLabel):
			calls(t, made(t, host, "a@x @"+s+"\n"), at("a", "x"), at("a", lowered(s)))
			calls(t, made(t, host, "a@x @y"+s+"z\n"), at("a", "x"), at("a", "y"+lowered(s)+"z"))
		case isOneOf(c, "-."):
			calls(t, made(t, host, "a@x @y"+s+"z\n"), at("a", "x"), at("a", "y"+s+"z"))
			refuses(t, api.ErrCanonForm, host, "a@x @y"+s+"\n", given)
			refuses(t, api.ErrCanonForm, host, "a@x @"+s+"y\n", given)
		case s != "\n": // behind it something begins anew
			refuses(t, api.ErrCanonForm, host, "a@x @y"+s+"z\n")
		}
	})
}

// TestP15_1WhichError: what is wrong with the name or the number is told ahead of what is wrong with a table.
func TestP15_1WhichError(t *testing.T) {
	for _, text := range append(someFaults(), "a@x postmaster\n", "a@x @\n") {
		for _, name := range []string{"", "MX", "[10.0.0.1]", domainOf(256)} {
			refuses(t, api.ErrArg, name, text)
			refuses(t, api.ErrArg, name, given, text)
			refuses(t, api.ErrArg, name, slices.Repeat([]string{text}, 9)...)
		}
		refuses(t, api.ErrArg, host, slices.Repeat([]string{text}, 9)...)
		refuses(t, api.ErrArg, host, append([]string{text}, make([]string, 8)...)...)
		refuses(t, api.ErrArg, host, append(make([]string, 8), text)...)
		refuses(t, api.ErrCanonForm, host, append(make([]string, 7), text)...)
	}
}

var twelve = []string{"Bcc", "Cc", "From", "Reply-To", "Resent-Bcc", "Resent-Cc", "Resent-From", "Resent-Reply-To", "Resent-Sender", "Resent-To", "Sender", "To"}

func TestP15_1Names(t *testing.T) {
	l := canon.Names()
	if !slices.Equal(l, twelve) || !slices.IsSorted(l) {
		t.Errorf("%q", l)
	}
	l = append(l, "Subject")
	clear(l)
	if l := canon.Names(); !slices.Equal(l, twelve) {
		t.Errorf("%q", l)
	}
	turns(t, made(t, host, given), "To: a@x.example\r\n", "To: b@y.example\r\n")
}
