package route_test

import (
	"fmt"
	"slices"
	"strings"
	"testing"

	"waybill/api"
	"waybill/config"
)

// bound is a number of a configuration, with the least and the most that it may be.
type bound struct {
	least, most int
	field       func(c *api.Config) *int
}

func bounds() []bound {
	return []bound{
		{1, 1000, func(c *api.Config) *int { return &c.DestLimit }},
		{1, 1000, func(c *api.Config) *int { return &c.HopLimit }},
		{1, 1000, func(c *api.Config) *int { return &c.InitialDest }},
		{0, 67108864, func(c *api.Config) *int { return &c.MailboxLimit }},
		{1, 1000000, func(c *api.Config) *int { return &c.MaxBackoff }},
		{1, 1048576, func(c *api.Config) *int { return &c.SizeLimit }},
		{1, 1000000, func(c *api.Config) *int { return &c.MinBackoff }},
		{0, 100000000, func(c *api.Config) *int { return &c.Lifetime }},
		{1, 1000, func(c *api.Config) *int { return &c.ErrorLimit }},
		{1, 200, func(c *api.Config) *int { return &c.RcptLimit }},
	}
}

// free is a configuration in which no number bars another one.
func free() api.Config {
	return with(func(c *api.Config) { c.DestLimit, c.InitialDest, c.MinBackoff, c.MaxBackoff = 1000, 1, 1, 1000000 })
}

// wrongConfigs may not be, each for another reason.
func wrongConfigs() []api.Config {
	l := []api.Config{{}}
	add := func(turn func(c *api.Config)) { l = append(l, with(turn)) }
	for _, b := range bounds() {
		for _, n := range []int{b.least - 1, b.most + 1, -1 << 63, 1<<63 - 1} {
			c := free()
			*b.field(&c) = n
			l = append(l, c)
		}
	}
	add(func(c *api.Config) { c.InitialDest, c.DestLimit = 21, 20 })
	add(func(c *api.Config) { c.MinBackoff, c.MaxBackoff = 301, 300 })
	for _, s := range []string{"", "MX.example", "mx.", "-", "a b", "[10.0.0.1]", "\xff", domainOf(256), strings.Repeat("l", 64)} {
		add(func(c *api.Config) { c.Hostname = s })
		add(func(c *api.Config) { c.Destinations = []string{s} })
		add(func(c *api.Config) { c.Destinations = []string{"a", s, "b"} })
		add(func(c *api.Config) { c.Relays = []string{s} })
		add(func(c *api.Config) { c.Relays = []string{"a", "b", s} })
	}
	add(func(c *api.Config) { c.Destinations = numbered(101) })
	add(func(c *api.Config) { c.Relays = numbered(101) })
	add(func(c *api.Config) { c.Networks = slices.Repeat(nets("10.0.0.0/8"), 101) })
	for _, n := range []api.Net{{Bits: 33}, {Bits: -1}, {Six: true, Bits: 129}, {Bits: 8, Addr: [16]byte{10, 1}}, {Bits: 32, Addr: [16]byte{4: 1}}, {Six: true, Bits: 64, Addr: [16]byte{15: 1}}} {
		add(func(c *api.Config) { c.Networks = []api.Net{n} })
		add(func(c *api.Config) { c.Networks = append(c.Networks, n) })
	}
	for _, s := range []string{".", "X", "a b", "10.0.0.0/8", "[]", "[x]", "[10.0.0.1", "10.0.0.1]", "[::0]", "[2001:DB8::1]", "[IPv6:::1]", "[10.0.0.0/8]", "smtp:x", domainOf(256)} {
		add(func(c *api.Config) { c.RelayHost = s })
	}
	for _, s := range []string{"", "A", "a b", "a.b", "a@b", xs(65)} {
		add(func(c *api.Config) { c.DoubleBounce = s })
	}
	for _, names := range [][]string{{""}, {"A"}, {"a.b"}, {xs(33)}, {"a", "a"}, {"a", "b", "a"}, numbered(9)} {
		add(func(c *api.Config) { c.Canonical = names })
		add(func(c *api.Config) { c.Transport = names })
		add(func(c *api.Config) { c.Virtual = names })
	}
	return l
}

func TestP17_1WrongConfigs(t *testing.T) {
	for _, c := range wrongConfigs() {
		if config.Right(c) {
			t.Errorf("%+v may be", c)
		}
		refuses(t, api.ErrArg, c)
		refuses(t, api.ErrArg, c, given)
		refuses(t, api.ErrArg, c, slices.Repeat([]string{given}, 8)...)
	}
}

func TestP17_1RightConfigs(t *testing.T) {
	x := at("a", "x.org")
	for _, b := range bounds() {
		for _, n := range []int{b.least, b.most} {
			c := free()
			if *b.field(&c) = n; c.InitialDest > c.DestLimit {
				c.DestLimit = c.InitialDest
			}
			if c.MinBackoff > c.MaxBackoff {
				c.MaxBackoff = c.MinBackoff
			}
			goes(t, made(t, c), x, "smtp", "x.org")
		}
	}
	for _, turn := range []func(c *api.Config){
		func(c *api.Config) { *c = config.Default() },
		func(c *api.Config) { c.Destinations, c.Relays, c.Networks = nil, nil, nil },
		func(c *api.Config) { c.Destinations, c.Relays, c.Networks = []string{}, []string{}, []api.Net{} },
		func(c *api.Config) { c.Destinations, c.Relays = numbered(100), numbered(100) },
		func(c *api.Config) { c.Destinations, c.Relays = []string{"a", "a"}, []string{"a", "a"} },
		func(c *api.Config) { c.Destinations, c.Relays = []string{domainOf(255)}, []string{domainOf(255)} },
		func(c *api.Config) { c.Networks = slices.Repeat(nets("10.0.0.0/8"), 100) },
		func(c *api.Config) { c.Networks = nets("::/0 0.0.0.0/0 ::1 10.0.0.1") },
		func(c *api.Config) { c.Hostname = domainOf(255) },
		func(c *api.Config) { c.DoubleBounce = xs(64) },
		func(c *api.Config) { c.Canonical, c.Transport, c.Virtual = numbered(8), numbered(8), numbered(8) },
		func(c *api.Config) { c.Transport = []string{"none", "of", "these"} }, // names are not what New is given
	} {
		goes(t, made(t, with(turn)), x, "smtp", "x.org")
		goes(t, made(t, with(turn), given), at("a", "bin.example"), "discard", "")
	}
}

// TestP17_1HowMany: each of the tables is asked, and there are no more than 8.
func TestP17_1HowMany(t *testing.T) {
	var l []string
	for n := range 9 {
		r := made(t, chapters(), l...)
		for i := range 9 {
			domain := fmt.Sprintf("x%d", i)
			if i < n {
				goes(t, r, at("a", domain), "smtp", fmt.Sprintf("y%d", i))
			} else {
				goes(t, r, at("a", domain), "smtp", domain)
			}
		}
		l = append(l, rows(fmt.Sprintf("x%d smtp:y%d", n, n)))
	}
	refuses(t, api.ErrArg, chapters(), l...)
	for _, n := range []int{9, 10, 16, 1000} {
		refuses(t, api.ErrArg, chapters(), make([]string, n)...)
		refuses(t, api.ErrArg, chapters(), slices.Repeat([]string{given}, n)...)
	}
	made(t, chapters(), make([]string, 8)...)
	made(t, chapters(), slices.Repeat([]string{given}, 8)...)
}

// someFaults are tables with each kind of fault that table.Parse tells.
func someFaults() []string {
	var many strings.Builder
	for i := range 2001 {
		fmt.Fprintf(&many, "k%d smtp:\n", i)
	}
	return []string{
		"\xc8", "x local:\n\xc8", "x local:\r\n", "x local:\x00\n", "x error:\u00e9\n", "# \x7f\n", "#\u00e9\n",
		" local:\n", "\n\tlocal:", "# x\n local:\n",
		"x", "x\n", "x local:\ny\n", "x \t \n",
		xs(321) + " local:\n", "x error:" + xs(995) + "\n", "x error:" + xs(994) + "\n x\n",
		rows("x local:", "x local:"), rows("x.y local:", "X.y smtp:"), rows(".x local:", "x smtp:", ".X local:"),
		many.String(),
		strings.Repeat("#", 1<<18+1), "x local:\n" + strings.Repeat("\n", 1<<18),
	}
}

func TestP17_1Faults(t *testing.T) {
	for _, text := range someFaults() {
		around(t, text)
	}
}

func TestP17_1RightTables(t *testing.T) {
	var many strings.Builder
	for i := range 2000 {
		fmt.Fprintf(&many, "x%d smtp:y%d\n", i, i)
	}
	r := made(t, chapters(), many.String())
	for i := range 2000 {
		goes(t, r, at("a", fmt.Sprintf("x%d", i)), "smtp", fmt.Sprintf("y%d", i))
	}
	goes(t, r, at("a", "x2000"), "smtp", "x2000")
	made(t, chapters(), slices.Repeat([]string{many.String()}, 8)...)
	for _, text := range []string{"", "\n", "\n\n\n", " \t \n", "# x local:\n", "#", "# x\n\n  # \n", strings.Repeat("#", 1<<18), "\t# x"} {
		r := made(t, chapters(), text)
		goes(t, r, at("a", "x"), "smtp", "x")
		goes(t, r, at("a", "bin.example"), "smtp", "bin.example")
		goes(t, r, at("a", "mx.example"), "local", "")
		goes(t, made(t, chapters(), text, given, text), at("a", "bin.example"), "discard", "")
	}
	for _, text := range []string{"x smtp:y", "x\tsmtp:y\n", "X   smtp:y  \n", "x\n smtp:y\n", "x \t\n\t smtp:y \t", "# t\nx\n\n\t smtp:y\n# u\n", "x smtp:y\n\n", "q local:\nx smtp:y"} {
		goes(t, made(t, chapters(), text), at("a", "x"), "smtp", "y")
	}
	for _, key := range []string{"a", "@", ".", "..", "x", "a@x", "[10.0.0.1]", "*", ":", "local:", "-", xs(320)} { // a key may be anything
		made(t, chapters(), key+" local:")
		around(t, key+" local")
	}
}

func TestP17_1Values(t *testing.T) {
	for value, want := range map[string]api.Hop{
		"local:":                         {Transport: "local"},
		"discard:":                       {Transport: "discard"},
		"smtp:":                          {Transport: "smtp", Next: "x"},
		"smtp:x":                         {Transport: "smtp", Next: "x"},
		"smtp:y":                         {Transport: "smtp", Next: "y"},
		"smtp:Y.Example":                 {Transport: "smtp", Next: "y.example"},
		"smtp:A-1.b":                     {Transport: "smtp", Next: "a-1.b"},
		"smtp:local":                     {Transport: "smtp", Next: "local"},
		"smtp:mx.example":                {Transport: "smtp", Next: "mx.example"},
		"smtp:10.0.0.1":                  {Transport: "smtp", Next: "10.0.0.1"},
		"smtp:256.1":                     {Transport: "smtp", Next: "256.1"},
		"smtp:" + domainOf(64):           {Transport: "smtp", Next: domainOf(64)},
		"smtp:" + domainOf(253):          {Transport: "smtp", Next: domainOf(253)},
		"smtp:" + domainOf(255):          {Transport: "smtp", Next: domainOf(255)},
		"smtp:[10.0.0.1]":                {Transport: "smtp", Next: "[10.0.0.1]"},
		"smtp:[0.0.0.0]":                 {Transport: "smtp", Next: "[0.0.0.0]"},
		"smtp:[IPv6:::1]":                {Transport: "smtp", Next: "[IPv6:::1]"},
		"smtp:[IPv6:::]":                 {Transport: "smtp", Next: "[IPv6:::]"},
		"smtp:[ipv6:2001:DB8::0:1]":      {Transport: "smtp", Next: "[IPv6:2001:db8::1]"},
		"smtp:[IPV6:1:0:0:2:0:0:0:3]":    {Transport: "smtp", Next: "[IPv6:1:0:0:2::3]"},
		"smtp:[iPv6:00aB:1:2:3:4:5:6:7]": {Transport: "smtp", Next: "[IPv6:ab:1:2:3:4:5:6:7]"},
		"error:x":                        {Transport: "error", Next: "x"},
		"error:Go  Away":                 {Transport: "error", Next: "Go  Away"},
		"error:go\taway":                 {Transport: "error", Next: "go\taway"},
		"error:go\n  away":               {Transport: "error", Next: "go away"},
		"error:\n x":                     {Transport: "error", Next: " x"},
		"error: x":                       {Transport: "error", Next: " x"},
		"error:\t x":                     {Transport: "error", Next: "\t x"},
		"error::":                        {Transport: "error", Next: ":"},
		"error:a:b":                      {Transport: "error", Next: "a:b"},
		"error:smtp:y":                   {Transport: "error", Next: "smtp:y"},
		"error:error:":                   {Transport: "error", Next: "error:"},
		"error:#":                        {Transport: "error", Next: "#"},
		"error:[10.0.0.1]":               {Transport: "error", Next: "[10.0.0.1]"},
		"error:5.7.1 no: never!":         {Transport: "error", Next: "5.7.1 no: never!"},
		"error:" + xs(399):               {Transport: "error", Next: xs(399)},
		"error:" + xs(400):               {Transport: "error", Next: xs(400)},
		"error:x" + strings.Repeat(" ", 398) + "x": {Transport: "error", Next: "x" + strings.Repeat(" ", 398) + "x"},
		"error:" + strings.Repeat(" ", 399) + "x":  {Transport: "error", Next: strings.Repeat(" ", 399) + "x"},
	} {
		for _, text := range []string{"x " + value, "x " + value + "\n", "X \t " + value + " \t \n", "x\n\t" + value, rows("w local:", "x "+value, "y discard:"), rows(".x error:no", "x "+value)} {
			goes(t, made(t, chapters(), text), at("a", "x"), want.Transport, want.Next)
		}
	}
}

func TestP17_1WrongValues(t *testing.T) {
	for _, value := range []string{
		"local", "discard", "smtp", "error", "x", ":", "::", ":x", ":smtp:", "[10.0.0.1]", "x.example", "a@x", "#", "-",
		"local:x", "local:x.example", "local:mx.example", "local: x", "local::", "local:[10.0.0.1]", "local:smtp:", "local:local:", "local:#", "local:x ", "local:\n x",
		"discard:x", "discard:x.example", "discard: x", "discard::", "discard:[10.0.0.1]", "discard:discard:", "discard:go away",
		"LOCAL:", "Local:", "locaL:", "DISCARD:", "Discard:", "SMTP:", "Smtp:", "SMTP:y", "smtP:[10.0.0.1]", "ERROR:x", "Error:x", "erroR:x",
		"local :", "local\t:", "local\n :", "loc al:", "discard :", "smtp :", "smtp :y", "smtp : y", "error :x", "error : x", "l local:", "x smtp:", "local: local:",
		"smtp: y", "smtp:\ty", "smtp:\n y", "smtp: [10.0.0.1]", "smtp:y z", "smtp:y\tz", "smtp:y\n z", "smtp:y # z", "smtp:y,z", "smtp:y, z", "smtp:y;",
		"relay:", "relay:y", "lmtp:y", "virtual:", "pipe:", "bounce:", "hold:", "smtps:y", "esmtp:y", "xsmtp:", "smt:", "smtpp:", "locals:", "loca:", "discards:", "discar:", "errors:x", "err:x", "erro:x", "retry:x", "local;", "local=", "local.", "smtp;y", "smtp=y", "smtp/y", "smtp.y", `"smtp":`, "<smtp:>", "(smtp):", "smtp:y:", "*:",
		"smtp:-", "smtp:-y", "smtp:y-", "smtp:.", "smtp:.y", "smtp:y.", "smtp:y..z", "smtp:y_z", "smtp:y.-z", "smtp:*", "smtp:*.y", "smtp:a@y", "smtp:@y", "smtp:<y>", `smtp:"y"`, "smtp:(y)", "smtp:y(z)", "smtp:y:25", "smtp::25", "smtp::", "smtp:smtp:", "smtp:smtp:y", "smtp://y", "smtp:inet:y",
		"smtp:[", "smtp:]", "smtp:[]", "smtp:[y]", "smtp:[y.example]", "smtp:[10.0.0]", "smtp:[10.0.0.1", "smtp:10.0.0.1]", "smtp:[10.0.0.256]", "smtp:[10.0.0.01]", "smtp:[10.0.0.0/8]", "smtp:[10.0.0.1/32]", "smtp:[10.0.0.1]:25", "smtp:[10.0.0.1].y", "smtp:[10.0.0.1] ,", "smtp:[ 10.0.0.1]", "smtp:[10.0.0.1 ]", "smtp:[[10.0.0.1]]", "smtp:[10.0.0.1][10.0.0.2]",
		"smtp:[::1]", "smtp:::1", "smtp:2001:db8::1", "smtp:[2001:db8::1]", "smtp:[IPv6:]", "smtp:[IPv6:10.0.0.1]", "smtp:[IPv6::]", "smtp:[IPv6:::1", "smtp:IPv6:::1", "smtp:[IPv6 ::1]", "smtp:[IPv6: ::1]", "smtp:[IPv4:10.0.0.1]", "smtp:[IPv6:1::2::3]", "smtp:[IPv6:::1/128]", "smtp:[IPv6:::g]", "smtp:[IPv6:1:2:3:4:5:6:7]",
		"smtp:" + strings.Repeat("l", 64), "smtp:y." + strings.Repeat("l", 64) + ".z", "smtp:" + domainOf(256), "smtp:" + domainOf(300), "smtp:" + domainOf(995),
		"error:", "error:" + xs(401), "error:" + xs(402), "error:" + xs(994), "error:x" + strings.Repeat(" ", 399) + "x", "error:" + strings.Repeat(" ", 400) + "x", "error:" + xs(300) + "\n " + xs(100),
	} {
		around(t, "x "+value)
		around(t, "x\n "+value+"\n")
		around(t, rows("w local:", "x "+value, "y local:"))
		around(t, rows("x "+value, "y local:"))
		around(t, rows("w local:", "any@y "+value))
		around(t, rows("# x", ".x smtp:", ".y "+value))
	}
	around(t, rows("x local:", " local:"))
	around(t, rows("x smtp:", " y"))
	around(t, rows("x", " smtp:", "y local:", " y"))
}

// TestP17_1Bytes: each byte in, ahead of and behind what a value is made of.
func TestP17_1Bytes(t *testing.T) {
	const ofLabel = "abcdefghijklmnopqrstuvwxyzABCDEFGHIJKLMNOPQRSTUVWXYZ0123456789"
	x := at("a", "x")
	held := func(text string, isRight bool, transport, next string) {
		t.Helper()
		if isRight {
			goes(t, made(t, chapters(), text), x, transport, next)
		} else {
			refuses(t, api.ErrRouteForm, chapters(), text)
		}
	}
	eachByte(func(c byte, s string) {
		isBlank, isShown := isOneOf(c, " \t"), 33 <= c && c <= 126
		held("x error:y"+s+"z", isShown || isBlank, "error", "y"+s+"z")
		held("x error:"+s+"z", isShown || isBlank, "error", s+"z")
		held("x error:y"+s, isShown || isBlank || c == '\n', "error", strings.TrimRight("y"+s, " \t\n"))
		held("x error:"+s, isShown, "error", s)
		held("x smtp:"+s, isOneOf(c, ofLabel) || isBlank || c == '\n', "smtp", lowered(strings.TrimSpace(s))+strings.Repeat("x", strings.Count(" \t\n", s)))
		held("x smtp:y"+s+"z", isOneOf(c, ofLabel+"-."), "smtp", "y"+lowered(s)+"z")
		held("x smtp:["+s+"]", false, "", "")
		held("x smtp:[10.0.0.1"+s+"]", '0' <= c && c <= '9', "smtp", "[10.0.0.1"+s+"]")
		held("x smtp:[10.0.0.1]"+s, isBlank || c == '\n', "smtp", "[10.0.0.1]")
		for _, word := range []string{"local", "discard"} {
			held("x "+word+":"+s, isBlank || c == '\n', word, "")
			held("x "+word+":"+s+"z", false, "", "")
			held("x "+word+s, c == ':', word, "")
		}
		for _, value := range []string{"local:", "discard:", "smtp:", "smtp:y", "error:y"} {
			transport, next, _ := strings.Cut(value, ":")
			if value == "smtp:" {
				next = "x"
			}
			held("x "+s+value, isBlank, transport, next)
			word, behind, _ := strings.Cut(value, ":")
			held("x "+word+s+":"+behind, value == "error:y" && c == ':', "error", ":y")
			held("x "+word+s+behind, c == ':', transport, next)
			held("x "+value[:2]+s+value[2:], false, "", "")
		}
	})
}

// TestP17_1ManyValues: no value is left out, wherever it stands among many.
func TestP17_1ManyValues(t *testing.T) {
	for _, at := range []int{0, 1, 2, 999, 1998, 1999} {
		var text strings.Builder
		for i := range 2000 {
			value := "smtp:y"
			if i == at {
				value = "smtp"
			}
			fmt.Fprintf(&text, "k%04d %s\n", i, value)
		}
		around(t, text.String())
	}
}

// TestP17_1WhichError: what is wrong with the configuration or the number is told ahead of what is wrong with a table.
func TestP17_1WhichError(t *testing.T) {
	wrong := wrongConfigs()
	for i, text := range append(someFaults(), "x local\n", "x local:y\n", "x error:\n", "x smtp:-\n") {
		c := wrong[i%len(wrong)]
		refuses(t, api.ErrArg, c, text)
		refuses(t, api.ErrArg, c, given, text)
		refuses(t, api.ErrArg, c, slices.Repeat([]string{text}, 9)...)
		refuses(t, api.ErrArg, chapters(), slices.Repeat([]string{text}, 9)...)
		refuses(t, api.ErrArg, chapters(), append([]string{text}, make([]string, 8)...)...)
		refuses(t, api.ErrArg, chapters(), append(make([]string, 8), text)...)
		refuses(t, api.ErrRouteForm, chapters(), append(make([]string, 7), text)...)
		refuses(t, api.ErrRouteForm, chapters(), append([]string{text}, make([]string, 7)...)...)
	}
	for _, c := range wrong {
		refuses(t, api.ErrArg, c, make([]string, 9)...)
		refuses(t, api.ErrArg, c, "x local\n", "\xff")
	}
	refuses(t, api.ErrRouteForm, chapters(), rows("x local", "x local"), "\xff")
	refuses(t, api.ErrRouteForm, chapters(), "x local\n\xff")
}
