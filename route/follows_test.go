package route_test

import (
	"slices"
	"strings"
	"testing"

	"waybill/api"
	"waybill/config"
	"waybill/path"
	"waybill/route"
)

// oneWay wants a mailbox that may be asked for to have one way, and one that may not to have none.
func oneWay(t *testing.T, r *route.Route, p api.Path) {
	t.Helper()
	hop, e := r.Hop(p)
	again, code := r.Hop(p)
	if hop != again || e != code || (e == api.OK) != isAsked(p) {
		t.Fatalf("Hop(%s): %s %v, then %s %v", named(p), shownHop(hop), e, shownHop(again), code)
	}
	isSo := hop.Next == ""
	switch hop.Transport {
	case "local", "discard":
	case "smtp":
		form, is := hostOf(hop.Next)
		isSo = is && form == hop.Next || bracketed(hop.Next)
	case "error":
		isSo = 1 <= len(hop.Next) && len(hop.Next) <= 400
	default:
		isSo = isSo && e == api.ErrArg
	}
	if !isSo {
		t.Fatalf("Hop(%s): %s %v", named(p), shownHop(hop), e)
	}
}

// bracketed tells whether a text is such as a RelayHost is: of IPv6 without the mark that literals have.
func bracketed(s string) bool {
	return config.Right(with(func(c *api.Config) { c.RelayHost = s }))
}

// follow wants what P17.5 says of a mailbox and a client; wider has all the networks, relays and destinations that r has, plain no tables.
func follow(t *testing.T, r, wider, plain *route.Route, client string, p api.Path) {
	t.Helper()
	oneWay(t, r, p)
	hop, _ := plain.Hop(p)
	if (hop.Transport == "local") != plain.Local(p) || plain.Local(p) != r.Local(p) {
		t.Fatalf("%s goes %s; Local %v", named(p), shownHop(hop), r.Local(p))
	}
	if r.Allowed(client, p) && !wider.Allowed(client, p) {
		t.Fatalf("Allowed(%s, %s) was taken away", short(client), named(p))
	}
	isOutside := !r.Allowed(client, atLiteral("any", "203.0.113.9")) // who is never here nor relayed
	if isOutside && r.Allowed(client, p) != (r.Local(p) || r.Relay(p)) {
		t.Fatalf("Allowed(%s, %s): %v", short(client), named(p), r.Allowed(client, p))
	}
	if !isOutside && r.Allowed(client, p) != isAsked(p) {
		t.Fatalf("Allowed(%s, %s): %v", short(client), named(p), r.Allowed(client, p))
	}
}

// more is a list with others in it, anywhere.
func more[T any](d *dice, l []T, others ...T) []T {
	l = slices.Clone(l)
	for _, x := range others {
		l = slices.Insert(l, d.roll(len(l)+1), x)
	}
	return l
}

func (d *dice) wider(c api.Config) api.Config {
	c.Networks = more(d, c.Networks, nets(strings.Join(d.some(2, rangeSorts), " "))...)
	c.Relays = more(d, c.Relays, d.some(2, domainSorts)...)
	c.Destinations = more(d, c.Destinations, d.some(2, domainSorts)...)
	return c
}

func TestP17_5Chance(t *testing.T) {
	d := dice(175)
	for range 2000 {
		c, tables := d.config(0), d.tables(0)
		r, wider, plain := made(t, c, tables...), made(t, d.wider(c), d.tables(0)...), made(t, c)
		for range 20 {
			follow(t, r, wider, plain, d.one(clientSorts), d.mailbox(15))
		}
	}
}

// TestP17_5Wider: each one more takes nothing away from anybody.
func TestP17_5Wider(t *testing.T) {
	r, plain := made(t, chapters(), given), made(t, chapters())
	var all []api.Path
	for _, domain := range domainSorts {
		all = append(all, at("a", domain))
	}
	all = append(append(all, postmaster, atLiteral("a", "10.0.0.1")), wrongPaths()[:12]...)
	var turns []func(c *api.Config)
	for _, s := range domainSorts {
		turns = append(turns, func(c *api.Config) { c.Relays = append([]string{s}, c.Relays...) })
		turns = append(turns, func(c *api.Config) { c.Relays = append(slices.Clone(c.Relays), s) })
		turns = append(turns, func(c *api.Config) { c.Destinations = append([]string{s}, c.Destinations...) })
		turns = append(turns, func(c *api.Config) { c.Destinations = append(slices.Clone(c.Destinations), s) })
	}
	for _, s := range rangeSorts {
		turns = append(turns, func(c *api.Config) { c.Networks = append(nets(s), c.Networks...) })
		turns = append(turns, func(c *api.Config) { c.Networks = append(slices.Clone(c.Networks), nets(s)...) })
	}
	for _, turn := range turns {
		wider := made(t, with(turn), given)
		for _, client := range clientSorts[:15] {
			for _, p := range all {
				follow(t, r, wider, plain, client, p)
			}
		}
	}
}

// TestP17_5Outside: from outside of the networks nobody sends but to who is here or relayed.
func TestP17_5Outside(t *testing.T) {
	r := made(t, chapters(), rows(".example smtp:", "org local:", "x.org local:", "[192.0.2.1] local:"))
	for _, client := range []string{"192.0.2.1", "9.255.255.255", "11.0.0.0", "127.0.0.1", "::1", "::ffff:a00:1", "", "x", "10.0.0"} {
		for _, domain := range []string{"x.org", "org", "example", "x.example", "xfar.example", "x.mx.example", "10.0.0.1"} {
			allows(t, r, client, false, everybody(domain)...)
		}
		allows(t, r, client, false, atLiteral("a", "10.0.0.1"), atLiteral("a", "192.0.2.1"), atLiteral("a", "::1"))
		for _, domain := range []string{"mx.example", "here.example", "far.example", "x.far.example"} {
			allows(t, r, client, true, everybody(domain)...)
		}
		allows(t, r, client, true, postmaster)
	}
}

// read is what a text of parameters says.
func read(t *testing.T, text string) api.Config {
	t.Helper()
	c, f := config.Parse(text)
	if f.Code != api.OK {
		t.Fatal(text, f)
	}
	return c
}

// same wants two Routes to tell the same of a mailbox and a client, as each was read.
func same(t *testing.T, r, s *route.Route, client, shouted string, p, q api.Path) {
	t.Helper()
	hop, e := r.Hop(p)
	if other, code := s.Hop(q); other != hop || code != e {
		t.Errorf("Hop(%s): %s %v and %s %v", named(p), shownHop(hop), e, shownHop(other), code)
	}
	if r.Local(p) != s.Local(q) || r.Relay(p) != s.Relay(q) || r.Allowed(client, p) != s.Allowed(shouted, q) {
		t.Errorf("%s, %s: Local %v, Relay %v, Allowed %v, and not so", named(p), short(client), r.Local(p), r.Relay(p), r.Allowed(client, p))
	}
}

// shout is a text with great letters behind a word: a line's value, a value's host, an address's domain.
func shout(s, behind string) string {
	word, host, _ := strings.Cut(s, behind)
	return word + behind + strings.ToUpper(host)
}

// TestP17_5Letters: great letters, where domains are read, turn nothing.
func TestP17_5Letters(t *testing.T) {
	lines := []string{"myhostname = mx.example", "mydestination = mx.example, here.example", "relay_domains = far.example", "mynetworks = 10.0.0.0/8 2001:db8::/32 ::1", "relayhost = relay.example"}
	entries := []string{"slow.example smtp:[10.0.0.9]", "six.example smtp:[IPv6:2001:db8::a]", "y.example smtp:other.example", ".y.example smtp:", ".no.example error:", "bin.example discard:", "at.example local:"}
	for _, relay := range []string{"relayhost = relay.example", "relayhost = [2001:db8::a]", "relayhost ="} {
		lines[4] = relay
		var greatLines, greatEntries []string
		for _, s := range lines {
			greatLines = append(greatLines, shout(s, " ="))
		}
		for _, s := range entries {
			key, value, _ := strings.Cut(s, " ")
			greatEntries = append(greatEntries, strings.ToUpper(key)+" "+shout(value, ":"))
		}
		text, greatText := strings.ReplaceAll(rows(entries...), "error:", "error:Go away"), strings.ReplaceAll(rows(greatEntries...), "error:", "error:Go away")
		r, s := made(t, read(t, rows(lines...)), text), made(t, read(t, rows(greatLines...)), greatText)
		for _, to := range []string{"<postmaster>", "<a@mx.example>", "<B.c@here.example>", "<a@far.example>", "<a@x.far.example>", "<a@slow.example>", "<a@six.example>", "<a@y.example>", "<a@x.y.example>", "<a@x.no.example>", "<a@bin.example>", "<a@at.example>", "<a@x.org>", "<a@example>", "<a@[10.1.1.1]>", "<a@[IPv6:2001:db8::1]>", "<@r.example:a@x.org>"} {
			p, _, e := path.Parse(to)
			q, _, code := path.Parse(shout(to, "@"))
			if to == "<postmaster>" {
				q, _, code = path.Parse("<PostMaster>")
			}
			if to[:2] == "<@" {
				q, _, code = path.Parse("<@R.EXAMPLE:a@X.ORG>")
			}
			if e != api.OK || code != api.OK {
				t.Fatal(to, e, code)
			}
			for _, client := range []string{"10.2.3.4", "192.0.2.1", "2001:db8::abcd", "::1", "fe80::a", "x"} {
				for _, shouted := range []string{client, strings.ToUpper(client)} {
					same(t, r, r, client, shouted, p, q)
					same(t, s, s, client, shouted, p, q)
					same(t, r, s, client, shouted, p, q)
					same(t, s, r, client, shouted, p, q)
				}
			}
		}
	}
}

// TestP17_5LettersChance: the same by chance, each letter of one kind or the other.
func TestP17_5LettersChance(t *testing.T) {
	d := dice(176)
	for range 600 {
		c := d.config(0)
		text, e := config.Show(c)
		if e != api.OK {
			continue
		}
		var l []string
		for line := range strings.Lines(text) {
			name, value, _ := strings.Cut(line, "=")
			if strings.Contains("myhostname mydestination relay_domains mynetworks relayhost ", name) {
				value = d.letters(value)
			}
			l = append(l, name+"="+value)
		}
		var tables, great []string
		for _, lines := range [][]string{d.some(4, domainSorts), d.some(4, domainSorts)} {
			first, second := "", ""
			for i, key := range lines {
				if slices.Contains(lines[:i], key) {
					continue
				}
				value := d.value(false)
				first += key + " " + value + "\n"
				if host, is := strings.CutPrefix(value, "smtp:"); is {
					value = "smtp:" + d.letters(host)
				}
				second += d.letters(key) + " " + value + "\n"
			}
			tables, great = append(tables, first), append(great, second)
		}
		r, s := made(t, c, tables...), made(t, read(t, strings.Join(l, "")), great...)
		for range 20 {
			p, client := d.mailbox(0), d.one(clientSorts)
			form, _ := path.Show(p)
			if i := strings.LastIndexByte(form, '@'); i >= 0 {
				form = form[:i] + d.letters(form[i:])
			} else {
				form = d.letters(form)
			}
			q, e := path.Mailbox(form)
			if e != api.OK {
				t.Fatal(form, e)
			}
			same(t, r, s, client, client, p, q)
		}
	}
}
