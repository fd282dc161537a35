package route_test

import (
	"slices"
	"strings"
	"testing"

	"waybill/api"
	"waybill/route"
)

var (
	domainSorts = []string{"x", "y", "x.y", "z.x.y", "q.x.y", "mx.example", "example", "here.example", "far.example", "sub.far.example", "10.0.0.1", "a-1.x", domainOf(100), domainOf(189)}
	hostSorts   = []string{"y", "relay.example", "10.0.0.1", "[10.0.0.9]", "[IPv6:::]", "[IPv6:2001:db8::1]", "[IPv6:1:0:0:2::3]", domainOf(255)}
	relaySorts  = []string{"relay.example", "x", "10.0.0.1", "[10.0.0.7]", "[2001:db8::7]", "[::]", domainOf(255)}
	reasonSorts = []string{"x", "go away", "5.1.1 No: Never", " x", "smtp:y", ":", "#", xs(400)}
	rangeSorts  = []string{"10.0.0.0/8", "10.1.0.0/16", "10.2.3.4", "192.0.2.0/24", "192.0.2.0/25", "0.0.0.0/0", "::/0", "2001:db8::/32", "2001:db8::/33", "::1", "::ffff:0:0/96"}
	clientSorts = []string{"10.2.3.4", "10.2.3.5", "10.1.255.255", "11.0.0.1", "192.0.2.127", "192.0.2.128", "127.0.0.1", "0.0.0.0", "::1", "::", "2001:DB8::5", "2001:db8:8000::", "2001:db9::", "::ffff:a02:304", "", "x", "10.0.0", "::ffff:10.2.3.4", "[10.2.3.4]", "10.2.3.4 "}
	notAsked    = append(append(wrongPaths(), longPaths()...), null)
	wrongConfs  = wrongConfigs()
	wrongValues = []string{"local", "local:x", "LOCAL:", "smtp", "smtp :", "smtp: y", "smtp:-", "smtp:[::1]", "smtp:[y]", "Smtp:y", "smtp:y:25", "discard:x", "discard", "error:", "error:" + xs(401), "Error:x", "relay:y", ":", "y", "smtp:" + domainOf(256)}
)

// letters are a text's, each of one kind or the other by chance.
func (d *dice) letters(s string) string {
	return strings.Map(func(r rune) rune {
		if isOneOf(byte(r), "abcdefghijklmnopqrstuvwxyz") && d.roll(2) == 0 {
			return r - 'a' + 'A'
		}
		return r
	}, lowered(s))
}

// some are up to n of these.
func (d *dice) some(n int, those []string) []string {
	var l []string
	for range d.roll(n + 1) {
		l = append(l, d.one(those))
	}
	return l
}

// config is one by chance; one of so many may not be, and of 0 each may.
func (d *dice) config(wrong int) api.Config {
	if wrong > 0 && d.roll(wrong) == 0 {
		return wrongConfs[d.roll(len(wrongConfs))]
	}
	return with(func(c *api.Config) {
		c.Hostname, c.Destinations, c.Relays = d.one(domainSorts), d.some(3, domainSorts), d.some(2, domainSorts)
		c.Networks = nets(strings.Join(d.some(3, rangeSorts), " "))
		if d.roll(3) == 0 {
			c.RelayHost = d.one(relaySorts)
		}
	})
}

// value is one by chance, its host in letters of either kind if that is asked.
func (d *dice) value(isMixed bool) string {
	switch d.roll(6) {
	case 0:
		return "local:"
	case 1:
		return "discard:"
	case 2:
		return "smtp:"
	case 3:
		return "error:" + d.one(reasonSorts)
	}
	host := d.one(hostSorts)
	if isMixed {
		host = d.letters(host)
	}
	return "smtp:" + host
}

func (d *dice) key() string {
	switch d.roll(6) {
	case 0, 1:
		l := keysOf(d.one(domainSorts))
		return l[d.roll(len(l))]
	case 2:
		return d.one([]string{".", "@x", "a@x", "[10.0.0.1]", "postmaster", ".example.", ".far.example", "..x", "*"})
	}
	return d.one(domainSorts)
}

// table is a table's text by chance; one of so many values may not be.
func (d *dice) table(wrong int) string {
	var keys, l []string
	for range d.roll(7) {
		key, value := d.key(), d.value(d.roll(3) == 0)
		if slices.Contains(keys, key) && (wrong == 0 || d.roll(50) > 0) {
			continue
		}
		keys = append(keys, key)
		if wrong > 0 && d.roll(wrong) == 0 {
			value = d.one(wrongValues)
		}
		if d.roll(3) == 0 {
			key = d.letters(key)
		}
		l = append(l, key+d.one([]string{" ", "\t", "  ", "\n "})+value+d.one([]string{"", "", " ", "\t "}))
		if d.roll(10) == 0 {
			l = append(l, d.one([]string{"", "# x", " # x local:"}))
		}
	}
	return strings.Join(l, "\n")
}

func (d *dice) tables(wrong int) []string {
	var l []string
	for range d.roll(4) {
		l = append(l, d.table(wrong))
	}
	if wrong > 0 && d.roll(wrong) == 0 {
		l = append(l, make([]string, 9-d.roll(4))...)
	}
	return l
}

// mailbox is one by chance; one of so many may not be, and of 0 each may.
func (d *dice) mailbox(wrong int) api.Path {
	switch {
	case wrong > 0 && d.roll(wrong) == 0:
		return notAsked[d.roll(len(notAsked))]
	case d.roll(20) == 0:
		return postmaster
	case d.roll(12) == 0:
		return atLiteral(d.one(locals()), d.one([]string{"10.0.0.1", "192.0.2.1", "::", "2001:db8::1"}))
	}
	return at(d.one(locals()[:3]), d.one(domainSorts))
}

// agree wants a Route to tell of a mailbox and a client what its model tells; it tells the way.
func agree(t *testing.T, r *route.Route, m model, client string, p api.Path) api.Hop {
	t.Helper()
	want, code := m.hop(p)
	if hop, e := r.Hop(p); hop != want || e != code {
		t.Fatalf("%s: Hop(%s): %s %v, not %s %v", shownModel(m), named(p), shownHop(hop), e, shownHop(want), code)
	}
	if r.Local(p) != m.local(p) || r.Relay(p) != m.relay(p) {
		t.Fatalf("%s: %s: Local %v, Relay %v", shownModel(m), named(p), r.Local(p), r.Relay(p))
	}
	if r.Allowed(client, p) != m.allowed(client, p) {
		t.Fatalf("%s: Allowed(%s, %s): not %v", shownModel(m), short(client), named(p), m.allowed(client, p))
	}
	return want
}

func shownModel(m model) string {
	s := "here " + short(strings.Join(append(m.c.Destinations, m.c.Hostname), " ")) + ", relays " + short(strings.Join(m.c.Relays, " ")) + ", by " + short(m.c.RelayHost)
	for _, l := range m.tables {
		for _, x := range l[:min(len(l), 10)] {
			s += " " + short(x.key) + " " + short(x.transport+":"+x.behind)
		}
	}
	return s
}

func TestP17_1Chance(t *testing.T) {
	d := dice(171)
	codes := map[api.Errno]int{}
	for range 10000 {
		c, tables := d.config(20), d.tables(20)
		_, want := modelNew(c, tables)
		if r, e := route.New(c, tables); e != want || (r == nil) != (want != api.OK) {
			t.Fatalf("New(%s, %q): %v %v, not %v", shownConfig(c), tables, r != nil, e, want)
		}
		codes[want]++
	}
	if codes[api.OK] < 2000 || codes[api.ErrArg] < 500 || codes[api.ErrRouteForm] < 1000 {
		t.Error(codes)
	}
}

func TestP17_4Chance(t *testing.T) {
	d := dice(174)
	ways := map[string]int{}
	near, far := 0, 0
	for range 4000 {
		c, tables := d.config(0), d.tables(0)
		m, _ := modelNew(c, tables)
		r := made(t, c, tables...)
		for range 20 {
			client, p := d.one(clientSorts), d.mailbox(15)
			ways[agree(t, r, m, client, p).Transport]++
			if isAsked(p) && !m.local(p) && !m.relay(p) {
				if m.near(client) {
					near++
				} else {
					far++
				}
			}
		}
	}
	for _, way := range []string{"local", "smtp", "discard", "error", ""} {
		if ways[way] < 2000 {
			t.Error(ways)
		}
	}
	if near < 5000 || far < 5000 {
		t.Error(near, far)
	}
}

// everyRow calls do with all rows of up to n of these pieces.
func everyRow(n int, pieces []string, do func(s string)) {
	var lay func(s string, n int)
	lay = func(s string, n int) {
		do(s)
		if n > 0 {
			for _, piece := range pieces {
				lay(s+piece, n-1)
			}
		}
	}
	lay("", n)
}

// TestP17_1Rows: all values of a few pieces.
func TestP17_1Rows(t *testing.T) {
	right := 0
	held := func(s string) {
		tables := []string{"x " + s}
		m, want := modelNew(chapters(), tables)
		r, e := route.New(chapters(), tables)
		if e != want {
			t.Fatalf("New(%s): %v, not %v", short(tables[0]), e, want)
		}
		if e == api.OK {
			right++
			agree(t, r, m, "", at("a", "x"))
		}
	}
	everyRow(4, []string{"local", "discard", "smtp", "error", ":", "y", ".", "-", " ", "\n ", "\t"}, held)
	everyRow(4, []string{"smtp:", "[", "]", "IPv6:", "ipV6:", "10.0.0.1", "1", ":", "::", "A", "L"}, held)
	everyRow(4, []string{"error:", xs(100), xs(200), "x", " ", "Smtp:", "local:", "\nz "}, held)
	if right < 500 {
		t.Error(right)
	}
}

// TestP17_4Rows: all domains of a few pieces.
func TestP17_4Rows(t *testing.T) {
	c := with(func(c *api.Config) {
		c.Hostname, c.Destinations, c.Relays, c.RelayHost = "a.a", []string{"b.a", "a-b"}, []string{"a.b", "b.b.b", "0"}, "c"
	})
	tables := []string{rows(".a smtp:", "b.b error:1", ".b.a discard:", "a-b smtp:y", ".0.a local:"), rows("a.b error:2", ".b error:3", ".a error:4", "b.a error:5", ".a-b smtp:")}
	for _, tables := range [][]string{nil, tables[:1], tables[1:], tables} {
		m, _ := modelNew(c, tables)
		r := made(t, c, tables...)
		everyRow(6, []string{"a", "b", ".", "-", "0"}, func(s string) { agree(t, r, m, "10.2.3.4", at("q", s)) })
		everyRow(4, []string{"a.b", ".", "b", "A", "-b", "0.", "@", "[", "\x00"}, func(s string) { agree(t, r, m, "", at("q", s)) })
		everyRow(4, []string{"0.0", ".0", "1", ".", ":", "::", "a", "IPv6:", "]"}, func(s string) { agree(t, r, m, "", atLiteral("q", s)) })
		everyRow(3, []string{"postmaster", "P", "ostmaster", "@", "a", "\"", " ", ".", "\x80"}, func(s string) { agree(t, r, m, "", at(s, "")) })
	}
}

// TestP17_3Rows: all clients of a few pieces.
func TestP17_3Rows(t *testing.T) {
	for _, networks := range []string{"10.0.0.0/8 ::/16 1000::/4", "0.0.0.0/0 ::/0", "10.1.1.1 ::1"} {
		c := with(func(c *api.Config) { c.Networks = nets(networks) })
		m, _ := modelNew(c, nil)
		r := made(t, c)
		everyRow(6, []string{"1", "0", "10", ".", ":", "::"}, func(s string) { agree(t, r, m, s, at("a", "x.org")) })
		everyRow(4, []string{"10.1.1", ".1", "1:1:1", ":1:1:1", ":", "/8", "%1", "[", " ", "F"}, func(s string) { agree(t, r, m, s, at("a", "x.org")) })
	}
}

// TestP1Great: all calls end with great things, too.
func TestP1Great(t *testing.T) {
	r := made(t, chapters(), given)
	for _, piece := range []string{"a", ".", "a.", "x local:\n", "\n", "\x00", "\xff", "@", ":", "1.", " ", "\"", "\\", "[", "#"} {
		great := strings.Repeat(piece, 1<<18)
		for _, p := range []api.Path{at(great, "mx.example"), at("a", great), at("a", great+".far.example"), {Local: great, Null: true}, atLiteral("a", great), at(great, "")} {
			isHere(t, r, false, p)
			isRelayed(t, r, false, p)
			allows(t, r, "10.2.3.4", false, p)
			if hop, e := r.Hop(p); e != api.ErrArg || hop != (api.Hop{}) {
				t.Errorf("Hop(%s): %s %v", named(p), shownHop(hop), e)
			}
		}
		allows(t, r, great, false, at("a", "x.org"))
		allows(t, r, great, true, at("a", "mx.example"))
		refuses(t, api.ErrRouteForm, chapters(), great+" ")
		refuses(t, api.ErrRouteForm, chapters(), "x "+great+" ")
		refuses(t, api.ErrRouteForm, chapters(), given, "x error:"+great+" x")
		refuses(t, api.ErrRouteForm, chapters(), given, "x smtp:a"+great+" x")
		refuses(t, api.ErrArg, with(func(c *api.Config) { c.Hostname = great }))
		refuses(t, api.ErrArg, with(func(c *api.Config) { c.RelayHost = great }), given)
		refuses(t, api.ErrArg, with(func(c *api.Config) { c.Relays = []string{great} }))
	}
	refuses(t, api.ErrArg, chapters(), make([]string, 1<<20)...)
	refuses(t, api.ErrArg, with(func(c *api.Config) { c.Destinations = make([]string, 1<<20) }))
	refuses(t, api.ErrArg, with(func(c *api.Config) { c.Networks = make([]api.Net, 1<<20) }))
}
