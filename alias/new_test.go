package alias_test

import (
	"fmt"
	"slices"
	"strings"
	"testing"

	"waybill/api"
)

// TestP16_1HowMany: each of the tables is asked, and there are no more than 8.
func TestP16_1HowMany(t *testing.T) {
	var l []string
	for n := range 9 {
		a := made(t, l...)
		for i := range 9 {
			p := at("a", fmt.Sprintf("x%d", i))
			if i < n {
				stands(t, a, p, at(fmt.Sprintf("b%d", i), "y"), at("c", "y"))
			} else {
				standsForNone(t, a, p)
			}
		}
		l = append(l, rows(fmt.Sprintf("a@x%d b%d@y, c@y", n, n)))
	}
	refuses(t, api.ErrArg, l...)
	for _, n := range []int{9, 10, 16, 1000} {
		refuses(t, api.ErrArg, make([]string, n)...)
		refuses(t, api.ErrArg, slices.Repeat([]string{given}, n)...)
	}
	made(t, make([]string, 8)...)
	made(t, slices.Repeat([]string{given}, 8)...)
}

// someFaults are tables with each kind of fault that table.Parse tells.
func someFaults() []string {
	var many strings.Builder
	for i := range 2001 {
		fmt.Fprintf(&many, "k%d b@y\n", i)
	}
	return []string{
		"\xc8", "a@x b@y\n\xc8", "a@x b@y\r\n", "a@x b@y\x00\n", "# \x7f\n", "#\u00e9\n",
		" b@y\n", "\n\tb@y", "# x\n b@y\n",
		"a@x", "a@x\n", "a@x b@y\nb@x\n", "a@x \t \n",
		xs(321) + " b@y\n", "a@x b@y," + xs(990) + "@y\n", "a@x " + strings.Repeat("b@y,", 249) + "bb@y,", "a@x b@y" + strings.Repeat("\n ,", 498) + " b@y",
		rows("a@x b@y", "a@x b@y"), rows("a@x b@y", "A@X c@y"), rows("@x b@y", "b@x c@y", "@X b@y"),
		many.String(),
		strings.Repeat("#", 1<<18+1), "a@x b@y\n" + strings.Repeat("\n", 1<<18),
	}
}

func TestP16_1Faults(t *testing.T) {
	for _, text := range someFaults() {
		around(t, text)
	}
}

func TestP16_1RightTables(t *testing.T) {
	var many strings.Builder
	for i := range 2000 {
		fmt.Fprintf(&many, "a@x%d b%d@y\n", i, i)
	}
	a := made(t, many.String())
	for i := range 2000 {
		stands(t, a, at("a", fmt.Sprintf("x%d", i)), at(fmt.Sprintf("b%d", i), "y"))
	}
	standsForNone(t, a, at("a", "x2000"))
	made(t, slices.Repeat([]string{many.String()}, 8)...)
	for _, text := range []string{"", "\n", "\n\n\n", " \t \n", "# a@x b@y\n", "#", "# postmaster\n\n  # \n", strings.Repeat("#", 1<<18), "\t# x"} {
		a := made(t, text)
		standsForNone(t, a, at("a", "x"), at("s", "x"))
		expands(t, a, at("a", "x"), at("a", "x"))
		stands(t, made(t, text, given, text), at("a", "x"), at("b", "x"), at("c", "y"))
	}
	for _, text := range []string{"a@x b@y,c@z", "a@x\tb@y,c@z\n", "A@X   b@y,c@z  \n", "a@x\n b@y,c@z\n", "a@x b@y,\n c@z", "a@x b@y\n\t,c@z\n", "a@x b@y\n , \n c@z", "# t\na@x\n\n\t b@y,\n# u\n\n c@z \n# v", "a@x b@y,c@z\n\n", "any q@z\na@x b@y,c@z"} {
		stands(t, made(t, text), at("a", "x"), at("b", "y"), at("c", "z"))
	}
	for _, key := range []string{"a", "@", ",", "x", "a@x,", "<a@x>", `"`, "postmaster", "a@[10.0.0.1]", xs(320)} { // a key may be anything
		made(t, key+" b@y")
		refuses(t, api.ErrAliasForm, key+" b")
	}
}

func TestP16_1Values(t *testing.T) {
	l64 := strings.Repeat("l", 64)
	for value, want := range map[string][]api.Path{
		"b@y":                                  {at("b", "y")},
		"B@Y.Example":                          {at("B", "y.example")},
		"b.c@y":                                {at("b.c", "y")},
		`"b c"@y`:                              {at("b c", "y")},
		"\"b\n c\"@y":                          {at("b c", "y")},
		`" b  c "@y`:                           {at(" b  c ", "y")},
		`"b"@y`:                                {at("b", "y")},
		`"\b\"\\"@y`:                           {at(`b"\`, "y")},
		`"@z"@y`:                               {at("@z", "y")},
		`"#"@y`:                                {at("#", "y")},
		"b@[10.0.0.1]":                         {atLiteral("b", "10.0.0.1")},
		"b@[ipv6:2001:DB8::0:1]":               {atLiteral("b", "2001:db8::1")},
		"postmaster@y":                         {at("postmaster", "y")},
		`"postmaster"@y`:                       {at("postmaster", "y")},
		"b@10.0.0.1":                           {at("b", "10.0.0.1")},
		"a@x":                                  {at("a", "x")},
		"a@x,A@X":                              {at("a", "x"), at("A", "x")},
		l64 + "@y":                             {at(l64, "y")},
		`"` + l64[3:] + ` "@y`:                 {at(l64[3:]+" ", "y")},
		"b@" + domainOf(252):                   {at("b", domainOf(252))},
		l64 + "@" + domainOf(189):              {at(l64, domainOf(189))},
		`"` + strings.Repeat(`\l`, 64) + `"@y`: {at(l64, "y")},
		`"` + strings.Repeat(",", 62) + `"@y`:  {at(strings.Repeat(",", 62), "y")},
		"b@y,c@z":                              {at("b", "y"), at("c", "z")},
		"b@y,b@y,b@y":                          {at("b", "y"), at("b", "y"), at("b", "y")},
		"b@[10.0.0.1],c@[10.0.0.1] , d@y":      {atLiteral("b", "10.0.0.1"), atLiteral("c", "10.0.0.1"), at("d", "y")},
		`","@y`:                                {at(",", "y")},
		`",,"@y,",@z,"@w`:                      {at(",,", "y"), at(",@z,", "w")},
		`"b, c"@y, d@z`:                        {at("b, c", "y"), at("d", "z")},
		`d@z,"b@y,c@y"@y`:                      {at("d", "z"), at("b@y,c@y", "y")},
		`"b\",c"@y,"\\",d@z`:                   nil,
		`"b\",c@z,\""@y,d@z`:                   {at(`b",c@z,"`, "y"), at("d", "z")},
		`"b\\"@y,"c,\\"@z`:                     {at(`b\`, "y"), at(`c,\`, "z")},
		`"\,"@y,"\ "@z`:                        {at(",", "y"), at(" ", "z")},
		`"\"@y,\""@z`:                          {at(`"@y,"`, "z")},
	} {
		text := "a@x " + value + "\n"
		if want == nil {
			around(t, text)
			continue
		}
		stands(t, made(t, text), at("a", "x"), want...)
		stands(t, made(t, "a@x "+value+" ,p@w\n"), at("a", "x"), append(slices.Clone(want), at("p", "w"))...)
		stands(t, made(t, "a@x p@w\t, "+value+"\n"), at("a", "x"), append([]api.Path{at("p", "w")}, want...)...)
	}
}

// wrongBoxes are texts that are no mailbox of a value, whatever stands beside them.
func wrongBoxes() []string {
	l64 := strings.Repeat("l", 64)
	return []string{
		"postmaster", "Postmaster", "POSTMASTER", `"postmaster"`, "<>", "<b@y>", "<@z:b@y>", "<@z,@w:b@y>", "@z:b@y", `""`, `""@y`,
		"@", "@y", "@y.example", "[10.0.0.1]", "b@[10.0.0]", "b@[]", "b@[y]", "b@[::1]", "b@[10.0.0.1", "b@10.0.0.1]", "b@[10.0.0.1].y",
		"b", "b@", "y.example", "@@y", "b@@y", "@y@z", "b@y@z", "@b@y", "b@y:",
		"b@y c@z", "b@y\tc@z", "b@y;c@z", "b@y;", "b@y.", "b@.y", "b@-y", "b@y-", "b@y_z", "b@y..z", "b c@y", "b@ y", "b @y", "b@y z",
		"b..c@y", ".b@y", "b.@y", `"b@y`, `b"@y`, `"b"c@y`, `"b".c@y`, `b."c"@y`, `"b""c"@y`, `"b" @y`, `"b"`, `"b@y"`, `"\"@y`, `"b\"@y`, `b\c@y`, `b\"@y`, `\b@y`, `b@y\`, `b@"y"`, `"`, `\`, `""b@y`, `b@y""`, `b@y"`,
		"(x) b@y", "b@y (x)", "J <b@y>", "mailto:b@y", "b@y # x", "#", "# b@y", ":include:/x", "|x", "/x/y",
		l64 + "l@y", `"` + l64[2:] + ` "@y`, "b@" + domainOf(253), "b@" + domainOf(255), "b@" + domainOf(256), l64 + "@" + domainOf(190), xs(900), "b@" + strings.Repeat("y.", 400),
		`"` + strings.Repeat(",", 63) + `"@y`, `"` + strings.Repeat(`\"`, 32) + `"@y`,
	}
}

func TestP16_1WrongValues(t *testing.T) {
	for _, s := range append(wrongBoxes(), `"b`+"\t"+`c"@y`, `",`+"\t"+`"@y`) {
		for _, value := range []string{s, "b@y," + s, s + ",b@y", "b@y , " + s + " ,\tb@y", s + "," + s, "b@y,c@z," + s} {
			refuses(t, api.ErrAliasForm, "a@x "+value+"\n")
			refuses(t, api.ErrAliasForm, given, rows("a@x b@y", "b@x "+value, "c@x b@y"))
		}
		around(t, "a@x\n "+s)
		around(t, rows("a@x "+s, "b@x b@y"))
		around(t, rows("a@x b@y", "any "+s))
		around(t, rows("# x", "@x b@y", "@z "+s))
		around(t, rows("a@x b@y,", " "+s))
	}
	around(t, rows("a@x b@y", " c@z"))
}

// TestP16_1Commas: just one stands between two mailboxes, and none elsewhere.
func TestP16_1Commas(t *testing.T) {
	for _, blank := range []string{"", " ", "\t", " \t "} {
		comma := blank + "," + blank
		for _, value := range []string{comma, comma + comma, "b@y" + comma, comma + "b@y", comma + "b@y" + comma, "b@y" + comma + comma + "c@z", "b@y,c@z" + comma, comma + "b@y,c@z", "b@y" + comma + comma + comma + "c@z", "b@y" + comma + "c@z" + comma + comma + "d@z", `""` + comma + "b@y", `"` + comma, `b@y` + comma + `"`, `"` + comma + `"`, `"` + comma + `"@y` + comma} {
			around(t, "a@x "+value)
			around(t, "a@x\n "+value+"\n")
		}
		stands(t, made(t, "a@x b@y"+comma+"c@z"+comma+"d@z"), at("a", "x"), boxes("b@y", "c@z", "d@z")...)
	}
	stands(t, made(t, "a@x, b@y\na@x c@z"), at("a", "x"), at("c", "z")) // a key may end with one
}

// TestP16_1Blanks: 32 and 9 may stand about a mailbox, and no other byte.
func TestP16_1Blanks(t *testing.T) {
	const ofLabel = "abcdefghijklmnopqrstuvwxyzABCDEFGHIJKLMNOPQRSTUVWXYZ0123456789"
	const ofAtom = ofLabel + "!#$%&'*+-/=?^_`{|}~"
	a := at("a", "x")
	eachByte(func(c byte, s string) {
		if isOneOf(c, " \t") {
			for _, more := range []string{s, s + s, s + " ", s + "\t", "\t" + s, strings.Repeat(s, 900)} {
				for _, value := range []string{"b@y" + more + ",c@z", "b@y," + more + "c@z", more + "b@y,c@z", "b@y,c@z" + more, "b@y\n" + more + ",c@z"} {
					stands(t, made(t, "a@x "+value), a, box("b@y"), box("c@z"))
				}
			}
			return
		}
		if c != '\n' { // behind it something begins anew
			behind, ahead := "b@y"+s, s+"c@z"
			if isOneOf(c, ofLabel) {
				stands(t, made(t, "a@x "+behind+",q@z"), a, at("b", "y"+lowered(s)), at("q", "z"))
			} else {
				refuses(t, api.ErrAliasForm, "a@x "+behind+",q@z")
				refuses(t, api.ErrAliasForm, "a@x "+behind+" ,q@z")
				refuses(t, api.ErrAliasForm, "a@x q@z,"+behind)
			}
			if isOneOf(c, ofAtom) {
				stands(t, made(t, "a@x q@z,"+ahead), a, at("q", "z"), at(s+"c", "z"))
			} else {
				refuses(t, api.ErrAliasForm, "a@x q@z,"+ahead)
				refuses(t, api.ErrAliasForm, "a@x q@z, "+ahead)
				refuses(t, api.ErrAliasForm, "a@x "+ahead+",q@z")
			}
			refuses(t, api.ErrAliasForm, "a@x b@y "+s+" ,c@z")
			refuses(t, api.ErrAliasForm, "a@x b@y, "+s+" c@z")
			if c != ',' {
				refuses(t, api.ErrAliasForm, "a@x b@y"+s+"c@z")
			} else {
				stands(t, made(t, "a@x b@y"+s+"c@z"), a, box("b@y"), box("c@z"))
			}
		}
	})
}

// TestP16_1QuotedBytes: what stands in quotes is a local part's, whichever byte it is.
func TestP16_1QuotedBytes(t *testing.T) {
	eachByte(func(c byte, s string) {
		if c < 32 || c > 126 {
			if c != '\n' {
				refuses(t, api.ErrAliasForm, `a@x "b`+s+`c"@y,d@z`)
				refuses(t, api.ErrAliasForm, `a@x "b\`+s+`c"@y,d@z`)
			}
			return
		}
		a := made(t, rows(`a@x "b\`+s+`c"@y,d@z`, `b@x d@z,"\`+s+`"@y`))
		stands(t, a, at("a", "x"), at("b"+s+"c", "y"), at("d", "z"))
		stands(t, a, at("b", "x"), at("d", "z"), at(s, "y"))
		switch c {
		case '"':
			refuses(t, api.ErrAliasForm, `a@x "b`+s+`c"@y,d@z`)
		case '\\':
			stands(t, made(t, `a@x "b`+s+`c"@y,d@z`), at("a", "x"), at("bc", "y"), at("d", "z"))
		default:
			stands(t, made(t, `a@x "b`+s+`c"@y,d@z`), at("a", "x"), at("b"+s+"c", "y"), at("d", "z"))
		}
	})
}

// TestP16_1HowManyMailboxes: of one value 1 to 100.
func TestP16_1HowManyMailboxes(t *testing.T) {
	for n := 1; n <= 250; n++ {
		for _, comma := range []string{",", ", "} {
			value := strings.Join(slices.Repeat([]string{"b@y"}, n), comma)
			switch {
			case len(value) > 1000:
				continue
			case n > 100:
				refuses(t, api.ErrAliasForm, "a@x "+value)
				refuses(t, api.ErrAliasForm, given, rows("a@x b@y", "b@x "+value, "c@x b@y"))
			default:
				stands(t, made(t, "a@x "+value), at("a", "x"), slices.Repeat(boxes("b@y"), n)...)
			}
		}
	}
	all := numbered(100, "k")
	a := made(t, rows("a@x "+strings.Join(all, ","), "b@x "+strings.Join(all, "\n ,")))
	stands(t, a, at("a", "x"), boxes(all...)...)
	stands(t, a, at("b", "x"), boxes(all...)...)
	around(t, "a@x "+strings.Join(append(all, "k0@x"), ","))
	around(t, "a@x "+strings.Join(all, ",")+",")
	around(t, "a@x ,"+strings.Join(all, ","))
	around(t, "a@x "+strings.Join(all, ",")+",postmaster")
	full := strings.Join(all[:99], ",")
	full += "," + strings.Repeat(" ", 1000-len(full+",k99@x")) + "k99@x"
	stands(t, made(t, "a@x "+full), at("a", "x"), boxes(all...)...)
	around(t, "a@x "+strings.Replace(full, " ", "  ", 1))
}

// TestP16_1ManyValues: no value is left out, wherever it stands among many.
func TestP16_1ManyValues(t *testing.T) {
	for _, at := range []int{0, 1, 2, 999, 1998, 1999} {
		var text strings.Builder
		for i := range 2000 {
			value := "b@y, c@z"
			if i == at {
				value = "b@y, c"
			}
			fmt.Fprintf(&text, "k%04d %s\n", i, value)
		}
		around(t, text.String())
	}
}

// TestP16_1WhichError: that there are too many is told ahead of what is wrong with one of them.
func TestP16_1WhichError(t *testing.T) {
	for _, text := range append(someFaults(), "a@x postmaster\n", "a@x b@y,,c@z\n", "a@x "+strings.Repeat("b@y,", 100)+"b@y") {
		refuses(t, api.ErrArg, slices.Repeat([]string{text}, 9)...)
		refuses(t, api.ErrArg, append([]string{text}, make([]string, 8)...)...)
		refuses(t, api.ErrArg, append(make([]string, 8), text)...)
		refuses(t, api.ErrAliasForm, append(make([]string, 7), text)...)
		refuses(t, api.ErrAliasForm, append([]string{text}, make([]string, 7)...)...)
	}
	refuses(t, api.ErrAliasForm, rows("a@x postmaster", "a@x postmaster"), "\xff")
	refuses(t, api.ErrAliasForm, "a@x postmaster\n\xff")
}
