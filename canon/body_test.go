package canon_test

import (
	"strings"
	"testing"

	"waybill/api"
	"waybill/canon"
	"waybill/mailaddr"
)

// several is a Canon whose tables have values of each kind.
func several(t *testing.T) *canon.Canon {
	t.Helper()
	return made(t, host, given, rows(`q@x "q r"@y`, "l@x l@[IPv6:2001:db8::1]", "long@x "+strings.Repeat("l", 64)+"@y.example", "@far @"+domainOf(253), "up@x UP@x", "same@x same@x", "short@long.long.example s@x"))
}

func TestP15_3Examples(t *testing.T) {
	writes(t, made(t, host, given), " J <a@x.example> (x), q@z", " J <b@y.example> (x), q@z")
}

// TestP15_3Lists: an address is another one wherever it stands in a list, and all about it stays.
func TestP15_3Lists(t *testing.T) {
	c := several(t)
	for _, around := range [][2]string{
		{"", ""}, {" ", ""}, {"\t", "\t"}, {"<", ">"}, {" J <", ">"}, {`"J, K" <`, ">"}, {"J. K (x) <", "> (y)"}, {"(a@x.example) ", " (a@x.example)"}, {`"a@x.example" <`, ">"}, {"<@r:", ">"}, {"<@x.example,@old.example:", ">"}, {"<@[10.0.0.1]:", ">"},
		{"g:", ";"}, {"g: J <", ">, ;"}, {",,", ",,"}, {"p@z,", ""}, {"", ",p@z"}, {"g:p@z;,", ",h:;"}, {"g:p@z,", ";,p@z"}, {" J\r\n <", ">\r\n (x)"}, {"\r\n ", "\r\n"}, {"\x80\xff <", ">"}, {"\u00e9 <", ">"}, {"(\x00) ", ""}, {"(\\)) ", "\r"}, {"\n", ""}, {"< ", "\t>"}, {"<(x)", "(y)>"},
	} {
		for one, other := range map[string]string{
			"a@x.example":            "b@y.example",
			"A@X.Example":            "b@y.example",
			`"a"@x.example`:          "b@y.example",
			`"\a" @ x . example`:     "b@y.example",
			"a(x)@(y)\r\n x.example": "b@y.example",
			"c@old.example":          "c@new.example",
			"C.d@OLD.example":        "C.d@new.example",
			`"c d"@old.example`:      `"c d"@new.example`,
			`c." d"@old.example`:     `"c. d"@new.example`,
			`"\"\\"@old.example`:     `"\"\\"@new.example`,
			"postmaster@old.example": "postmaster@new.example",
			"q@x":                    `"q r"@y`,
			"l@x":                    "l@[IPv6:2001:db8::1]",
			"up@x":                   "UP@x",
			"a\r@\nx.example":        "b@y.example",
		} {
			writes(t, c, around[0]+one+around[1], around[0]+other+around[1])
			writes(t, c, around[0]+one+around[1]+", a@x.example", around[0]+other+around[1]+", b@y.example")
			writes(t, c, "a@x.example,"+around[0]+one+around[1], "b@y.example,"+around[0]+other+around[1])
		}
		for _, one := range []string{"c@x.example", "C@X.Example", `"c"@z`, "c (x) @ z", "a@[10.0.0.1]", "a@[ipv6:2001:DB8::0:1]", "c@far", "same@x", "same@X", `"same"@x`, "postmaster@mx.example", "a@example", "b@y.example", "A@new.EXAMPLE"} {
			keeps(t, c, around[0]+one+around[1])
		}
	}
}

func TestP15_3NoAddress(t *testing.T) {
	for _, c := range []*canon.Canon{several(t), made(t, host)} {
		keeps(t, c, "", " ", ",", ",,", " , ", "g:;", "g:;,h:,;", "(a@x.example)", "\r\n", "\t\r\n ", "(x\x00)")
	}
}

// TestP15_3NoList: what mailaddr refuses stays, even if there are addresses in it.
func TestP15_3NoList(t *testing.T) {
	c := several(t)
	l64 := strings.Repeat("l", 64)
	for _, body := range []string{
		"a", "postmaster", "<postmaster>", "J <>", "<>", "a@x.example c@old.example", "a@x.example)", "(a@x.example", "<a@x.example", "a@x.example>", "J a@x.example", "a@x.example, J", "g:a@x.example", "a@x.example;", `"a@x.example`, "a@x.example,\x00", "a@x.example,\x7f", "a@x.example,c@", "a@x.example,@z",
		"a@x.example, c@-z", "a@x.example,c\x80@z", `a@x.example,""@z`, "a@x.example,a@[z]", "c@-z,a@x.example",
		"a@x.example," + l64 + "l@z", l64 + "l@z,a@x.example", "a@x.example,a@" + domainOf(253), "a@x.example,a@" + domainOf(256), l64 + "l@old.example",
		strings.Repeat("a@x.example,", 201), "g:" + strings.Repeat("c@old.example,", 201) + ";",
		"a@x.example" + strings.Repeat(" ", 65536), "a@x.example" + strings.Repeat(" ", 65526), strings.Repeat(",", 65526) + "a@x.example",
	} {
		if _, e := mailaddr.Parse(body); e == api.OK {
			t.Errorf("%s is a list", short(body))
		}
		keeps(t, c, body)
	}
}

// TestP15_3Forms: if one of several is another one, all are written in their forms; if none is, none is.
func TestP15_3Forms(t *testing.T) {
	c := several(t)
	odd := `"c"@Z.Example, c . d (x) @ z, c@[IPV6:2001:DB8::0:1], J <"\c\ "@z>`
	even := `c@z.example, c.d@z, c@[IPv6:2001:db8::1], J <"c "@z>`
	keeps(t, c, odd, even)
	writes(t, c, odd+",a@x.example", even+",b@y.example")
	writes(t, c, "a@x.example,"+odd, "b@y.example,"+even)
	writes(t, c, odd+",a@x.example,"+odd, even+",b@y.example,"+even)
	writes(t, c, odd+",g:<@r:a@x.example>;(x)", even+",g:<@r:b@y.example>;(x)")
	writes(t, c, even+",a@x.example", even+",b@y.example")
	keeps(t, c, odd+",same@x", odd+",c@far")
	writes(t, c, odd+",up@x", even+",UP@x")
}

func TestP15_3Many(t *testing.T) {
	c := several(t)
	for _, n := range []int{1, 2, 3, 199, 200} {
		writes(t, c, strings.Repeat("a@x.example,", n), strings.Repeat("b@y.example,", n))
		writes(t, c, strings.Repeat("p@z,", n-1)+"c@old.example", strings.Repeat("p@z,", n-1)+"c@new.example")
		writes(t, c, "c@old.example"+strings.Repeat(",P@Z", n-1), "c@new.example"+strings.Repeat(",P@z", n-1))
		keeps(t, c, strings.Repeat("P@Z,", n))
	}
	writes(t, c, "c@old.example,a@x.example,q@x,p@z,c@old.example", `c@new.example,b@y.example,"q r"@y,p@z,c@new.example`)
}

// TestP15_3Long: a body stays, if it would get longer than it may be.
func TestP15_3Long(t *testing.T) {
	c := several(t)
	long := strings.Repeat("l", 64) + "@y.example"
	for _, size := range []int{100, 60000, 65535, 65536} {
		fill := strings.Repeat(" ", size-len(long))
		writes(t, c, "long@x"+fill, long+fill)
		writes(t, c, fill+"long@x", fill+long)
	}
	for _, more := range []int{1, 2, 10, len(long) - len("long@x")} {
		fill := strings.Repeat(" ", 65536-len(long)+more)
		keeps(t, c, "long@x"+fill, fill+"long@x")
	}
	fill := strings.Repeat(",", 65536-len("short@long.long.example"))
	writes(t, c, "short@long.long.example"+fill, "s@x"+fill)
	most := strings.Repeat("long@x,", 200)
	writes(t, c, most, strings.Repeat(long+",", 200))
	fill = strings.Repeat(" ", 65536-len(strings.Repeat(long+",", 200)))
	writes(t, c, most+fill, strings.Repeat(long+",", 200)+fill)
	keeps(t, c, most+fill+" ")
	writes(t, c, "a@x.example"+strings.Repeat(" ", 65525), "b@y.example"+strings.Repeat(" ", 65525))
}
