package config_test

import (
	"fmt"
	"strconv"
	"strings"
	"testing"

	"waybill/api"
	"waybill/config"
)

func TestP8_2NumberBounds(t *testing.T) {
	for _, p := range numbers() {
		for _, n := range []int{p.least, p.least + 1, p.much, p.most - 1, p.most} {
			c := parsed(t, apart(p.name)+p.name+" = "+strconv.Itoa(n))
			if *p.field(&c) != n {
				t.Errorf("%s = %d: %d", p.name, n, *p.field(&c))
			}
			*p.field(&c) = p.much
			if other := parsed(t, apart(p.name)); !same(c, other) {
				t.Errorf("%s = %d turns other fields: %+v, not %+v", p.name, n, c, other)
			}
		}
		for _, n := range []int{p.least - 1, p.most + 1, p.most * 10, 9999999999} {
			refuses(t, apart(p.name)+p.name+" = "+strconv.Itoa(n), api.ErrConfigValue, len(apart(p.name)))
		}
	}
}

func TestP8_2NumberForm(t *testing.T) {
	for _, p := range numbers() {
		for _, s := range []string{
			"", "00", "01", "07", "010", "0000000001", "00000000001", "+1", "-1", "-0", "+0", "1 ,", "1.", "1.0", "1e1", "1_0", "0x1", "0b1", "0o7", "1 0", "1,", ",1", "a", "1a", "a1", "1-", "-", "_", "\"1\"", "1k", "1 # x", "10000000000", "11111111111", "4294967297", "4294967396", "9999999999", "18446744073709551617", "18446744073709551716", "99999999999999999999", "36893488147419103332", strings.Repeat("1", 999),
		} {
			refuses(t, p.name+" = "+s, api.ErrConfigValue, 0)
		}
	}
	reads(t, "queue_lifetime = 0", func(c *api.Config) { c.Lifetime = 0 })
	reads(t, "mailbox_size_limit = 0", func(c *api.Config) { c.MailboxLimit = 0 })
	for digit := range 10 {
		reads(t, fmt.Sprintf("queue_lifetime = 1%d", digit), func(c *api.Config) { c.Lifetime = 10 + digit })
	}
	refuses(t, "queue_lifetime = 1000000000", api.ErrConfigValue, 0)
	refuses(t, "queue_lifetime = 0000000000", api.ErrConfigValue, 0)
}

func TestP8_2TwoNumbers(t *testing.T) {
	for _, x := range []struct {
		text string
		is   bool
	}{
		{"initial_concurrency = 20", true}, {"initial_concurrency = 21", false}, {"initial_concurrency = 1000", false},
		{"destination_concurrency = 5", true}, {"destination_concurrency = 4", false}, {"destination_concurrency = 1", false},
		{"initial_concurrency = 1000\ndestination_concurrency = 1000", true}, {"destination_concurrency = 999\ninitial_concurrency = 1000", false}, {"destination_concurrency = 1\ninitial_concurrency = 1", true}, {"destination_concurrency = 1\ninitial_concurrency = 2", false},
		{"minimal_backoff = 4000", true}, {"minimal_backoff = 4001", false}, {"minimal_backoff = 1000000", false},
		{"maximal_backoff = 300", true}, {"maximal_backoff = 299", false}, {"maximal_backoff = 1", false},
		{"minimal_backoff = 1000000\nmaximal_backoff = 1000000", true}, {"minimal_backoff = 1000000\nmaximal_backoff = 999999", false}, {"maximal_backoff = 7\nminimal_backoff = 7", true}, {"maximal_backoff = 7\nminimal_backoff = 8", false},
		{"initial_concurrency = $destination_concurrency", true}, {"minimal_backoff = $maximal_backoff" + "1", false},
	} {
		for _, ahead := range []string{"", "# x\n\n", "hopcount_limit = 7\n"} {
			if !x.is {
				refuses(t, ahead+x.text, api.ErrConfigValue, 0)
			} else {
				parsed(t, ahead+x.text)
			}
		}
	}
	// Behind what is wrong with any one value.
	refuses(t, "initial_concurrency = 21\nvirtual_alias_maps = A", api.ErrConfigValue, 25)
	refuses(t, "minimal_backoff = 4001\nvirtual_alias_maps = $nobody", api.ErrConfigForm, 23)
	refuses(t, "minimal_backoff = 4001\ninitial_concurrency = 21", api.ErrConfigValue, 0)
	refuses(t, "minimal_backoff = 4001\ninitial_concurrency = 1001", api.ErrConfigValue, 23)
}

// domainTexts are domains, in lower letters, and texts that are none.
func domainTexts() ([]string, []string) {
	a63 := strings.Repeat("a", 63)
	right := []string{"a", "z", "0", "9", "a.b", "a-b", "a--b", "0-0.9-9", "1.2.3.4", "x.1", "localhost", "mail.example.org", a63, a63 + ".b", "b." + a63, "b." + a63 + ".c", longDomain(254), longDomain(255), strings.Repeat("a.", 127) + "b", strings.Repeat("0.", 126) + "aaa", "xn--a", "a" + strings.Repeat("-", 61) + "b"}
	wrong := []string{".", "..", ".a", "a.", "a..b", "a...b", "-", "-a", "a-", "a.-b", "a-.b", "a.b-", "-.a", "a.-", "a.-.b", "--", a63 + "a", a63 + "a.b", "b." + a63 + "a", "b." + a63 + "a.c", longDomain(256), longDomain(257), longDomain(400), strings.Repeat("a.", 128) + "b", strings.Repeat("a.", 127) + "bb", "a_b", "_", "a@b", "@", "[a]", "[1.2.3.4]", "a:b", "::1", "a/b", "10.0.0.0/8", "a*", "*.a", "a!", "~", "a;b", "a\"b", "\"a\"", "a'b", "a+b", "a=b", "a#b", "a^b", "`", "{", "/", ":", "a`", "a{", "a[", "a/"}
	return right, wrong
}

func TestP8_2Hostname(t *testing.T) {
	right, wrong := domainTexts()
	for _, s := range right {
		for _, spelt := range []string{s, strings.ToUpper(s), strings.ToUpper(s[:1]) + s[1:]} {
			reads(t, "myhostname = "+spelt, func(c *api.Config) { c.Hostname, c.Destinations = s, []string{s} })
		}
	}
	for _, s := range append(wrong, "", "a b", "a,b", "a,", ",a", "a\tb") {
		refuses(t, "mydestination =\nmyhostname = "+s, api.ErrConfigValue, 16)
	}
}

// TestP8_2DomainBytes: each byte within a label, at its beginning and at its end.
func TestP8_2DomainBytes(t *testing.T) {
	const letters, edge = "abcdefghijklmnopqrstuvwxyz0123456789", "$#, \t" // these mean something else
	for c := byte(33); c <= 126; c++ {
		s := string([]byte{c})
		if strings.Contains(edge, s) {
			continue
		}
		for _, host := range []string{s, s + "a", "a" + s, "a" + s + "a", "b.a" + s + "a.c", "b." + s + "a", "b.a" + s + ".c"} {
			text := "mydestination =\nmyhostname = " + host
			is := strings.Contains(letters, strings.ToLower(s)) || s == "-" && strings.Contains(host, "a-a") || s == "." && (host == "a.a" || host == "b.a.a.c")
			if !is {
				refuses(t, text, api.ErrConfigValue, 16)
				continue
			}
			reads(t, text, func(c *api.Config) { c.Hostname, c.Destinations = strings.ToLower(host), nil })
		}
	}
}

func TestP8_2DomainLists(t *testing.T) {
	right, wrong := domainTexts()
	for name, field := range domainLists() {
		reads(t, name+" =", func(c *api.Config) { *field(c) = nil })
		for _, s := range []string{",", ",,", ", ,", ",\n ,\t,"} {
			reads(t, name+" = "+s, func(c *api.Config) { *field(c) = nil })
		}
		for _, s := range right {
			want := []string{s, "x", s, s}
			reads(t, name+" = "+s+" X,"+strings.ToUpper(s)+" "+s[:1]+s[1:], func(c *api.Config) { *field(c) = want })
			reads(t, name+" = "+strings.ToUpper(s), func(c *api.Config) { *field(c) = want[:1] })
		}
		for _, s := range wrong {
			for _, value := range []string{s, "a, " + s, s + ", a", "a " + s + " b"} {
				refuses(t, name+" = "+value, api.ErrConfigValue, 0)
			}
		}
		for _, between := range []string{" ", "\t", ",", ", ", " ,", ",,", " \t ", "\t,\t", ", ,", "\n ", ",\n\t"} {
			value := strings.Join([]string{"b", "A", "b", "c.d"}, between)
			want := []string{"b", "a", "b", "c.d"}
			reads(t, name+" = "+value, func(c *api.Config) { *field(c) = want })
			reads(t, name+" = ,"+between+value+between+",", func(c *api.Config) { *field(c) = want })
		}
		refuses(t, name+" = a\n,b", api.ErrConfigForm, len(name)+5) // no line that continues
		for _, between := range []string{";", ":", "/", "|", "+", "\"", "=", "_"} {
			refuses(t, name+" = a"+between+"b", api.ErrConfigValue, 0)
		}
	}
}

func TestP8_2DomainListLength(t *testing.T) {
	for name, field := range domainLists() {
		for _, between := range []string{",", " ", ", ", "\n ", ",\t"} {
			for _, n := range []int{1, 99, 100} {
				reads(t, name+" = "+strings.Join(counted(n), between), func(c *api.Config) { *field(c) = counted(n) })
			}
			refuses(t, name+" = "+strings.Join(counted(101), between), api.ErrConfigValue, 0)
			refuses(t, name+" = "+strings.Join(counted(150), between), api.ErrConfigValue, 0)
		}
		same := strings.Fields(strings.Repeat("a ", 100))
		reads(t, name+" = "+strings.Join(same, ","), func(c *api.Config) { *field(c) = same })
		reads(t, name+" = ,"+strings.Join(same, ",,")+",", func(c *api.Config) { *field(c) = same })
		for _, n := range []int{101, 200, 201, 500} {
			refuses(t, name+" = "+strings.Repeat("a,", n), api.ErrConfigValue, 0)
		}
	}
}

func TestP8_2Tables(t *testing.T) {
	eight := []string{"a", "b-c", "d_e", "0", "-", "_", "--__", strings.Repeat("z", 32)}
	for name, field := range tableLists() {
		reads(t, name+" =", asTheyAre)
		reads(t, name+" = , ,", asTheyAre)
		for n := range 9 {
			for _, between := range []string{" ", "\t", ",", ", ", "\n ", " ,\t,"} {
				reads(t, name+" = "+strings.Join(eight[:n], between), func(c *api.Config) { *field(c) = eight[:n] })
				reads(t, name+" = ,"+strings.Join(eight[:n], between)+",", func(c *api.Config) { *field(c) = eight[:n] })
			}
		}
		for _, s := range []string{strings.Repeat("z", 31), strings.Repeat("z", 32), "9", "a9-_", "abcdefghijklmnopqrstuvwxyz-_", "0123456789"} {
			reads(t, name+" = "+s, func(c *api.Config) { *field(c) = []string{s} })
		}
		for _, value := range []string{
			strings.Join(eight, " ") + " nine", strings.Join(eight, ",") + ",a", "a b c d e f g h i j", strings.Repeat("z", 33), "a " + strings.Repeat("z", 33), strings.Repeat("z", 33) + ",a", strings.Repeat("z", 1000),
			"a a", "a,a", "a,b,a", "a b b", "a b c d e f g a", "a b c d e f g g", "A", "a B", "Z", "a.b", "a:b", "hash:a", "a/b", "a@b", "a+b", "a=b", "a;b", "a`", "a{", "[", "a:", "/", "!", "~", "\"a\"",
		} {
			refuses(t, name+" = "+value, api.ErrConfigValue, 0)
		}
	}
	// One name may stand for several parameters.
	reads(t, "canonical_maps = a\ntransport_maps = a\nvirtual_alias_maps = b a", func(c *api.Config) {
		c.Canonical, c.Transport, c.Virtual = []string{"a"}, []string{"a"}, []string{"b", "a"}
	})
}

func TestP8_2DoubleBounce(t *testing.T) {
	for _, s := range []string{"a", "z", "0", "9", "-", "_", "double-bounce", "a_b-c9", strings.Repeat("x", 63), strings.Repeat("x", 64), "-_-"} {
		reads(t, "double_bounce_sender = "+s, func(c *api.Config) { c.DoubleBounce = s })
	}
	for _, s := range []string{"", "A", "aB", "Z", "a.b", "a@b", "a b", "a,b", "a,", "a+b", "\"a\"", "a`", "a{", "/", ":", "@", "[", "!", "~", "=", strings.Repeat("x", 65), strings.Repeat("x", 1000)} {
		refuses(t, "double_bounce_sender = "+s, api.ErrConfigValue, 0)
	}
}

func TestP8_2Networks(t *testing.T) {
	reads(t, "mynetworks =", func(c *api.Config) { c.Networks = nil })
	reads(t, "mynetworks = ,, ,", func(c *api.Config) { c.Networks = nil })
	want := []api.Net{four(8, 10), last(1), four(32, 1, 2, 3, 4), four(8, 10), six(10, 0xfe, 0x80), four(0)}
	things := []string{"10.0.0.0/8", "::1", "1.2.3.4", "10.0.0.0/8", "FE80::/10", "0.0.0.0/0"}
	for _, between := range []string{" ", "\t", ",", ", ", " ,\t,", "\n ", ",\n\t"} {
		reads(t, "mynetworks = "+strings.Join(things, between), func(c *api.Config) { c.Networks = want })
		reads(t, "mynetworks = ,"+between+strings.Join(things, between)+between+",", func(c *api.Config) { c.Networks = want })
	}
	reads(t, "mynetworks = 1.2.3.4/32", func(c *api.Config) { c.Networks = []api.Net{four(32, 1, 2, 3, 4)} })
	for _, s := range []string{"x", "10.0.0.1/8", "10.0.0.0/33", "10.0.0.0/-1", "10.0.0.0/08", "10.0.0", "10.0.0.0/", "/8", "010.0.0.1", "256.0.0.1", "1::2::3", "::1/129", "::1/127", "[::1]", "[10.0.0.0/8]", "!10.0.0.0/8", "10.0.0.0 /8", "a.b", "1.2.3.4;1.2.3.5", "fe80::g"} {
		for _, value := range []string{s, "::1, " + s, s + " ::1", "::1," + s + ",::2"} {
			refuses(t, "mynetworks = "+value, api.ErrConfigValue, 0)
		}
	}
}

func TestP8_2NetworksLength(t *testing.T) {
	var want []api.Net
	var things []string
	for i := range 101 {
		want = append(want, last(byte(i)))
		things = append(things, fmt.Sprintf("::%x", i))
	}
	things[0] = "::"
	for _, between := range []string{",", " ", ", ", "\n "} {
		for _, n := range []int{1, 99, 100} {
			reads(t, "mynetworks = "+strings.Join(things[:n], between), func(c *api.Config) { c.Networks = want[:n] })
		}
		refuses(t, "mynetworks = "+strings.Join(things, between), api.ErrConfigValue, 0)
	}
	for _, n := range []int{101, 199, 200, 201, 202, 333} {
		refuses(t, "mynetworks = "+strings.Repeat("::,", n), api.ErrConfigValue, 0)
	}
	reads(t, "mynetworks = "+strings.Repeat("::,", 100), func(c *api.Config) {
		c.Networks = nil
		for range 100 {
			c.Networks = append(c.Networks, six(128))
		}
	})
}

func TestP8_2RelayHost(t *testing.T) {
	right, wrong := domainTexts()
	reads(t, "relayhost =", asTheyAre)
	for _, s := range right {
		reads(t, "relayhost = "+s, func(c *api.Config) { c.RelayHost = s })
		reads(t, "relayhost = "+strings.ToUpper(s), func(c *api.Config) { c.RelayHost = s })
	}
	for s, want := range map[string]string{
		"[1.2.3.4]": "[1.2.3.4]", "[0.0.0.0]": "[0.0.0.0]", "[255.255.255.255]": "[255.255.255.255]", "[::1]": "[::1]", "[::]": "[::]", "[2001:DB8::0:1]": "[2001:db8::1]", "[0:0:0:0:0:0:0:0]": "[::]", "[1:2:3:4:5:6:7::]": "[1:2:3:4:5:6:7:0]", "[00ab::]": "[ab::]",
	} {
		reads(t, "relayhost = "+s, func(c *api.Config) { c.RelayHost = want })
	}
	for _, s := range append(wrong, "a b", "a,b", "a,", ",", "[a]", "[x]", "[mail.example.org]", "[]", "[", "]", "][", "[[1.2.3.4]]", "[1.2.3.4", "1.2.3.4]", "[::1", "::1]", "::1", "[1.2.3.4]]", "[[1.2.3.4]", "[1.2.3.4].", "[1.2.3.4]:25", "[1.2.3.4] [1.2.3.4]", "x[1.2.3.4]", "[10.0.0.0/8]", "[1.2.3.4/32]", "[::1/128]", "[::/0]", "10.0.0.0/8", "[ 1.2.3.4]", "[1.2.3.4 ]", "[1.2.3]", "[01.2.3.4]", "[1.2.3.256]", "[1::2::3]", "[IPv6:::1]", "(1.2.3.4)", "[1.2.3.4,1.2.3.5]", "a:25", "smtp:a", "[a]:25") {
		if s != "[1.2.3.4]" { // no domain, but right here
			refuses(t, "relayhost = "+s, api.ErrConfigValue, 0)
		}
	}
}

func TestP8_2FieldsInTheirPlaces(t *testing.T) {
	c := parsed(t, join(
		"canonical_maps = c", "transport_maps = t", "virtual_alias_maps = v", "destination_concurrency = 901", "double_bounce_sender = d", "hopcount_limit = 902", "initial_concurrency = 900", "mailbox_size_limit = 903", "maximal_backoff = 904", "message_size_limit = 905", "minimal_backoff = 899", "mydestination = de", "myhostname = h", "mynetworks = ::", "queue_lifetime = 906", "relay_domains = r", "relayhost = rh", "smtpd_error_limit = 907", "smtpd_recipient_limit = 190",
	))
	want := api.Config{
		Hostname: "h", Destinations: []string{"de"}, Networks: []api.Net{six(128)}, Relays: []string{"r"}, Virtual: []string{"v"}, Canonical: []string{"c"}, Transport: []string{"t"}, RelayHost: "rh", DoubleBounce: "d", SizeLimit: 905, RcptLimit: 190, ErrorLimit: 907, HopLimit: 902, MailboxLimit: 903, Lifetime: 906, MinBackoff: 899, MaxBackoff: 904, DestLimit: 901, InitialDest: 900,
	}
	if !same(c, want) {
		t.Errorf("%+v, not %+v", c, want)
	}
}

// TestP8_2IsTheCallers: what was told is shared with nothing (R3).
func TestP8_2IsTheCallers(t *testing.T) {
	const text = "relay_domains = a b\nmydestination = $relay_domains\nmynetworks = ::1\ncanonical_maps = a b\ntransport_maps = $canonical_maps\nvirtual_alias_maps = $canonical_maps"
	want := parsed(t, text)
	c, other := parsed(t, text), parsed(t, text)
	lists := []*[]string{&c.Relays, &c.Destinations, &c.Canonical, &c.Transport, &c.Virtual}
	for i, l := range lists {
		for k := range *l {
			(*l)[k] = "turned"
		}
		*l = append((*l)[:1], "more")
		for _, later := range lists[i+1:] {
			if (*later)[0] != "a" || (*later)[1] != "b" {
				t.Errorf("two lists share what is in them: %d", i)
			}
		}
	}
	c.Networks[0] = four(33)
	if again := parsed(t, text); !same(other, want) || !same(again, want) {
		t.Errorf("what was told is told again, turned: %+v, %+v", other, again)
	}
	d := config.Default()
	d.Destinations[0], d.Networks[0] = "turned", four(33)
	if !same(config.Default(), defaults()) {
		t.Errorf("Default: %+v", config.Default())
	}
}
