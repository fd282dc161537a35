package route_test

import (
	"strings"
	"testing"

	"waybill/api"
	"waybill/route"
)

// noAddresses are texts that are no address, most of them like one.
func noAddresses() []string {
	return []string{
		"", " ", "x", "localhost", "unknown", "10", "10.0", "10.0.0", "10.0.0.", ".10.0.0.1", "10.0.0.1.1", "10..0.1", "10.0.0.256", "10.0.0.01", "010.0.0.1", "10.0.0.0001", "10.0.0.-1", "10.0.0.+1", "10.0.0.a", "0x0a.0.0.1", "167772161", "10.0.0.0/8", "10.0.0.1/32", "0.0.0.0/0", "10.0.0.1/",
		" 10.0.0.1", "10.0.0.1 ", "\t10.0.0.1", "10.0.0.1\n", "10.0.0.1\x00", "10.0.0.1,10.0.0.2", "10.0.0.1 10.0.0.2", "[10.0.0.1]", "<10.0.0.1>", "10.0.0.1:25", "\xd9\xa1.0.0.1", "10.0.0.1\xff",
		":", ":::", "::/0", "::1/128", "[::1]", "[IPv6:::1]", "IPv6:::1", "ipv6:::1", "::1%lo", "fe80::1%1", "::ffff:10.0.0.1", "::10.0.0.1", "1::2::3", "1:2:3:4:5:6:7", "1:2:3:4:5:6:7:8:9", "1:2:3:4:5:6:7:8::", "::12345", "::g", " ::1", "::1 ", ":1", "1:", "mx.example", "pc.10.0.0.1",
	}
}

func TestP17_3Examples(t *testing.T) {
	r := made(t, chapters(), given)
	allows(t, r, "10.2.3.4", true, at("a", "x.org"))
	allows(t, r, "192.0.2.1", false, at("a", "x.org"))
	allows(t, r, "192.0.2.1", true, at("a", "sub.far.example"))
}

// TestP17_3Edges: who lies in one of the networks may send anywhere, up to its edges.
func TestP17_3Edges(t *testing.T) {
	x := at("a", "x.org")
	for _, row := range []struct{ networks, in, out string }{
		{"10.0.0.0/8", "10.0.0.0 10.255.255.255 10.2.3.4", "9.255.255.255 11.0.0.0 0.0.0.10 ::1 ::ffff:a00:1 a00:1:: a00::"},
		{"10.1.2.0/23", "10.1.2.0 10.1.3.255 10.1.2.255 10.1.3.0", "10.1.1.255 10.1.4.0 10.1.0.0 10.2.2.0 11.1.2.0"},
		{"10.1.2.128/25", "10.1.2.128 10.1.2.255", "10.1.2.127 10.1.3.0 10.1.2.0"},
		{"10.1.2.4/31", "10.1.2.4 10.1.2.5", "10.1.2.3 10.1.2.6"},
		{"10.1.2.3", "10.1.2.3", "10.1.2.2 10.1.2.4 10.1.3.3 10.2.2.3 11.1.2.3"},
		{"128.0.0.0/1", "128.0.0.0 255.255.255.255", "127.255.255.255 0.0.0.0"},
		{"0.0.0.0/0", "0.0.0.0 255.255.255.255 127.0.0.1", ":: ::1 ffff:: ::ffff:a00:1"},
		{"0.0.0.0", "0.0.0.0", "0.0.0.1 :: 1.0.0.0"},
		{"::/0", ":: ::1 ffff:ffff:ffff:ffff:ffff:ffff:ffff:ffff ::ffff:a00:1 2001:DB8::0:1", "0.0.0.0 10.2.3.4 255.255.255.255"},
		{"::1", "::1 0:0:0:0:0:0:0:1 0::01", ":: ::2 1:: ::1:1 0.0.0.1 127.0.0.1"},
		{"2001:db8::/32", "2001:db8:: 2001:db8:ffff:ffff:ffff:ffff:ffff:ffff 2001:DB8::1", "2001:db7:ffff:ffff:ffff:ffff:ffff:ffff 2001:db9:: 32.1.13.184"},
		{"fe80::/10", "fe80:: febf:ffff:: FE90::1", "fe7f:ffff:: fec0:: fe00::"},
		{"2001:db8::8/125", "2001:db8::8 2001:db8::f", "2001:db8::7 2001:db8::10"},
		{"10.0.0.0/8 192.0.2.7, 2001:db8::/64", "10.9.9.9 192.0.2.7 2001:db8::5", "192.0.2.6 192.0.2.8 2001:db8:0:1:: 127.0.0.1"},
		{"192.0.2.7 10.0.0.0/8 10.0.0.0/16", "10.9.9.9 10.0.1.1 192.0.2.7", "9.9.9.9"},
		{"", "", "127.0.0.1 10.2.3.4 ::1 0.0.0.0 ::"},
	} {
		r := made(t, with(func(c *api.Config) { c.Networks = nets(row.networks) }), given)
		for client := range strings.FieldsSeq(row.in) {
			allows(t, r, client, true, x, at("a", "bin.example"), at("a", "q.no.example"), atLiteral("a", "192.0.2.9"), atLiteral("a", "::5"))
			isHere(t, r, false, x)
			isRelayed(t, r, false, x)
		}
		for client := range strings.FieldsSeq(row.out) {
			allows(t, r, client, false, x, at("a", "bin.example"), at("a", "q.no.example"), atLiteral("a", "192.0.2.9"), atLiteral("a", "::5"), atLiteral("a", "10.2.3.4"))
			allows(t, r, client, true, postmaster, at("a", "mx.example"), at("a", "here.example"), at("a", "far.example"), at("a", "sub.far.example"))
		}
	}
}

// TestP17_3NoAddress: who is no address lies in no network.
func TestP17_3NoAddress(t *testing.T) {
	some, all := made(t, chapters()), made(t, with(func(c *api.Config) { c.Networks = nets("0.0.0.0/0 ::/0") }))
	for _, client := range noAddresses() {
		for _, r := range []*route.Route{some, all} {
			allows(t, r, client, false, at("a", "x.org"), at("a", "example"), atLiteral("a", "10.0.0.1"), at("a", "bin.example"))
			allows(t, r, client, true, postmaster, at("a", "mx.example"), at("a", "far.example"), at("b c", "x.far.example"))
		}
	}
	allows(t, all, "10.0.0.1", true, at("a", "x.org"))
	allows(t, all, "::1", true, at("a", "x.org"))
}

// TestP17_3Bytes: each byte in an address.
func TestP17_3Bytes(t *testing.T) {
	all := made(t, with(func(c *api.Config) { c.Networks = nets("0.0.0.0/0 ::/0") }))
	x := at("a", "x.org")
	eachByte(func(c byte, s string) {
		isDigit := '0' <= c && c <= '9'
		allows(t, all, "10.0.0."+s, isDigit, x)
		allows(t, all, s+".0.0.1", isDigit, x)
		allows(t, all, "10.0"+s+"0.1", c == '.', x)
		allows(t, all, "10.0.0.1"+s, isDigit, x)
		allows(t, all, s+"10.0.0.1", '1' == c || c == '2', x)
		allows(t, all, "::"+s, isOneOf(c, "0123456789abcdefABCDEF"), x)
		allows(t, all, s+":1", c == ':', x)
		allows(t, all, "1:2:3:4:5:6:7"+s+"8", c == ':', x)
	})
}

// TestP17_3NotAsked: who may not be asked for, nobody may send to.
func TestP17_3NotAsked(t *testing.T) {
	l := append(append(wrongPaths(), longPaths()...), null)
	for _, networks := range []string{"10.0.0.0/8", "0.0.0.0/0 ::/0", ""} {
		r := made(t, with(func(c *api.Config) { c.Networks = nets(networks) }), given)
		for _, client := range append(noAddresses(), "10.2.3.4", "127.0.0.1", "192.0.2.1", "0.0.0.0", "::", "::1", "2001:db8::1") {
			allows(t, r, client, false, l...)
		}
	}
}

// TestP17_3Tables: what the tables say lets nobody send, and bars nobody.
func TestP17_3Tables(t *testing.T) {
	r := made(t, chapters(), rows("x.org local:", "y.org smtp:mx.example", "mx.example error:no", "far.example error:no", ".far.example discard:", "10.2.3.4 local:"))
	for _, domain := range []string{"x.org", "y.org", "10.2.3.4"} {
		allows(t, r, "192.0.2.1", false, at("a", domain))
		allows(t, r, "10.2.3.4", true, at("a", domain))
	}
	for _, client := range []string{"192.0.2.1", "10.2.3.4", ""} {
		allows(t, r, client, true, at("a", "mx.example"), at("a", "far.example"), at("a", "x.far.example"))
	}
}
