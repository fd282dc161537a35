package path_test

import (
	"strings"
	"testing"

	"waybill/api"
	"waybill/path"
)

func TestP9_3Domain(t *testing.T) {
	for s, want := range map[string]string{"a": "a", "A": "a", "Example.org": "example.org", "EXAMPLE.ORG": "example.org", "a.b.c.d.e.f": "a.b.c.d.e.f", "1": "1", "10.0.0.1": "10.0.0.1", "256.256": "256.256", "a-b": "a-b", "A--1": "a--1", "0-0.9-9": "0-0.9-9", "xn--A": "xn--a"} {
		isDomain(t, s, want, false)
	}
	noDomain(t, api.ErrPathForm, "", ".", "..", ".a", "a.", "a..b", ".a.b", "a.b.", "-", "--", "-a", "a-", "a.-b", "a-.b", "a.b-", "-a.b", "a.-", "-.a", "a.-.b", "a b", " a", "a ", "a@b", "@", "a_b", "*", "a/b", "a:b", "IPv6:::1", "::1", "\"a\"", "<a>", "a<b", "a,b", "\x00", "a\n", "\xc3\xa4", "\u212a", "\u017f")
}

// TestP9_3EachByte: at the edges of labels, and within.
func TestP9_3EachByte(t *testing.T) {
	eachByte(func(c byte, s string) {
		low := strings.ToLower(s)
		if !isOneOf(c, ofLabel) {
			low = s
		}
		for _, x := range [][2]string{{"", ""}, {"b", ""}, {"", "b"}, {"b", "b"}, {"b.", ".b"}, {"b.", "b.b"}, {"b.b", ".b"}, {"b-", "-b"}} {
			isWithin := x[0] == "b" && x[1] == "b" || x[0] == "b-"
			isDot := c == '.' && x[0] == "b" && x[1] == "b"
			switch {
			case isOneOf(c, ofLabel), isWithin && c == '-', isDot:
				isDomain(t, x[0]+s+x[1], x[0]+low+x[1], false)
			case c == '>':
				if d, is, e := path.Domain(x[0] + s + x[1]); d != "" || is || e != api.ErrPathForm {
					t.Errorf("Domain(%q): %q %v %v", x[0]+s+x[1], d, is, e)
				}
			default:
				noDomain(t, api.ErrPathForm, x[0]+s+x[1])
			}
		}
	})
}

func TestP9_3Labels(t *testing.T) {
	l := func(n int) string { return strings.Repeat("l", n) }
	for _, s := range []string{l(1), l(62), l(63), l(63) + "." + l(63), "a." + l(63), l(63) + ".a", "a." + l(63) + ".a", "a" + strings.Repeat("-", 61) + "a"} {
		isDomain(t, s, s, false)
		isDomain(t, strings.ToUpper(s), s, false)
	}
	noDomain(t, api.ErrPathForm, l(64), l(65), l(255), l(256), l(1<<16), l(63)+"."+l(64), l(64)+"."+l(63), "a."+l(64), l(64)+".a", "a."+l(64)+".a", "a"+strings.Repeat("-", 62)+"a")
}

// TestP9_3Long: what is no domain is told ahead of what is too long.
func TestP9_3Long(t *testing.T) {
	for size := 1; size <= 255; size++ {
		isDomain(t, strings.ToUpper(domainOf(size)), domainOf(size), false)
	}
	isDomain(t, strings.Repeat("a.", 127)+"a", strings.Repeat("a.", 127)+"a", false)
	for _, size := range []int{256, 257, 300, 512, 1 << 16} {
		noDomain(t, api.ErrPathLong, domainOf(size), strings.ToUpper(domainOf(size)))
		noDomain(t, api.ErrPathForm, domainOf(size)+".", domainOf(size)+"-", "-"+domainOf(size), domainOf(size)+" ", "["+domainOf(size)+"]", domainOf(size)+"..a", strings.Repeat("d", size))
	}
	noDomain(t, api.ErrPathLong, strings.Repeat("a.", 128)+"a", strings.Repeat("a.", 1<<16)+"a")
}

func TestP9_3Literals(t *testing.T) {
	for _, s := range []string{"0.0.0.0", "1.2.3.4", "10.0.0.1", "255.255.255.255", "127.0.0.1"} {
		isDomain(t, "["+s+"]", s, true)
		noDomain(t, api.ErrPathForm, "[IPv6:"+s+"]", "[IPv4:"+s+"]", "[ipv6:"+s+"]", "[:"+s+"]")
	}
	for s, want := range map[string]string{"::": "::", "::1": "::1", "2001:DB8::1": "2001:db8::1", "2001:DB8::0:1": "2001:db8::1", "0:0:0:0:0:0:0:1": "::1", "0::0": "::", "1:2:3:4:5:6:7:8": "1:2:3:4:5:6:7:8", "1:2:3:4:5:6:7::": "1:2:3:4:5:6:7:0", "1::3:4:5:6:7:8": "1:0:3:4:5:6:7:8", "0001:0002::00aB": "1:2::ab", "FE80::": "fe80::", "1:0:0:2:0:0:0:3": "1:0:0:2::3"} {
		for _, mark := range []string{"IPv6:", "ipv6:", "IPV6:", "iPv6:", "IpV6:"} {
			isDomain(t, "["+mark+s+"]", want, true)
		}
		noDomain(t, api.ErrPathForm, "["+s+"]", "[IPv6"+s+"]", "[IPv6 "+s+"]", "[IPv4:"+s+"]", "[IPv6:IPv6:"+s+"]", "[IP:"+s+"]", "[v6:"+s+"]", "[IPv6: "+s+"]", "[ IPv6:"+s+"]", "IPv6:["+s+"]", "[[IPv6:"+s+"]]", "[IPv6:["+s+"]]", "[IPv6:"+s+"/128]")
	}
	noDomain(t, api.ErrPathForm, "[IPv6:1]", "[IPv6::1]", "[IPv6:]", "[IPv6]", "[IPv]", "[I", "[]", "[", "]", "[[", "]]", "][", "[.]", "[:]", "[1.2.3]", "[1.2.3.4.5]", "[1.2.3.256]", "[01.2.3.4]", "[1.2.3.4", "1.2.3.4]", "[1.2.3.4]]", "[[1.2.3.4]", "[[1.2.3.4]]", "[1.2.3.4] ", " [1.2.3.4]", "[ 1.2.3.4]", "[1.2.3.4 ]", "[1.2.3.4].", "[1.2.3.4]a", "a[1.2.3.4]", "a.[1.2.3.4]", "[1.2.3.4].a", "[1.2.3.4][1.2.3.4]", "[1.2.3.4][", "(1.2.3.4)", "[1.2.3.4)", "[a]", "[a.b]", "[example.org]", "[IPv6:a.b]", "[1.2.3.4\x00]", "[\x00]")
	noDomain(t, api.ErrPathForm, "[1.2.3.4/32]", "[1.2.3.0/24]", "[0.0.0.0/0]", "[10.0.0.0/8]", "[IPv6:::/0]", "[IPv6:::1/128]", "[IPv6:fe80::/10]", "[IPv6:1::2::3]", "[IPv6:1:2:3:4:5:6:7]", "[IPv6:1:2:3:4:5:6:7:8:9]", "[IPv6:1:2:3:4:5:6:7:8::]", "[IPv6:::g]", "[IPv6:::12345]", "[IPv6:::1.2.3.4]", "[IPv6:::1", "IPv6:::1]", "[IPv6:::1]]", "[IPv6:::1] ", "[IPv6:::1%1]")
	noDomain(t, api.ErrPathForm, "["+strings.Repeat("1", 1<<16)+"]", "["+strings.Repeat("1.", 1<<16)+"]", "[IPv6:"+strings.Repeat(":", 1<<16)+"]", "["+strings.Repeat("[", 1<<16), "["+strings.Repeat("]", 1<<16))
}

// TestP9_3EachByteOfLiteral puts each byte in the place of each one of a literal.
func TestP9_3EachByteOfLiteral(t *testing.T) {
	for _, s := range []string{"[1.2.3.4]", "[IPv6:::1]"} {
		eachByte(func(c byte, one string) {
			for i := range len(s) {
				text := s[:i] + one + s[i+1:]
				sameDomain(t, text)
				sameText(t, "a@"+text)
				sameText(t, "<a@"+text+">")
			}
		})
	}
}
