package route_test

import (
	"fmt"
	"slices"
	"strconv"
	"strings"
	"testing"
	"unsafe"

	"waybill/api"
	"waybill/cidr"
	"waybill/config"
	"waybill/path"
	"waybill/route"
)

// The chapter's table.
const given = "slow.example smtp:[10.0.0.9]\n.no.example error:go away\nbin.example discard:\n"

var (
	null       = api.Path{Null: true}
	postmaster = at("postmaster", "")
)

func at(local, domain string) api.Path { return api.Path{Local: local, Domain: domain} }

func atLiteral(local, address string) api.Path {
	return api.Path{Local: local, Domain: address, Literal: true}
}

// with is the chapter's configuration, turned so.
func with(turn func(c *api.Config)) api.Config {
	c := config.Default()
	c.Hostname, c.Destinations, c.Relays = "mx.example", []string{"mx.example", "here.example"}, []string{"far.example"}
	c.Networks = nets("10.0.0.0/8")
	turn(&c)
	return c
}

func chapters() api.Config { return with(func(*api.Config) {}) }

// by is the chapter's configuration with a host that all goes to that is not here.
func by(relayHost string) api.Config {
	return with(func(c *api.Config) { c.RelayHost = relayHost })
}

func nets(s string) []api.Net {
	l, e := cidr.List(s)
	if e != api.OK {
		panic(strconv.Quote(s) + " are no ranges")
	}
	return l
}

// rows is a table's text of these lines.
func rows(lines ...string) string { return strings.Join(lines, "\n") + "\n" }

func xs(n int) string { return strings.Repeat("x", n) }

// numbered are n domains: d0, d1.
func numbered(n int) []string {
	var l []string
	for i := range n {
		l = append(l, "d"+strconv.Itoa(i))
	}
	return l
}

// domainOf is a domain of that many bytes, in labels as long as may be.
func domainOf(size int) string {
	var l []string
	for size > 63 {
		take := min(63, size-2)
		l = append(l, strings.Repeat("d", take))
		size -= take + 1
	}
	return strings.Join(append(l, strings.Repeat("e", size)), ".")
}

// made is a Route of what may be.
func made(t *testing.T, c api.Config, tables ...string) *route.Route {
	t.Helper()
	r, e := route.New(c, tables)
	if r == nil || e != api.OK {
		t.Fatalf("New(%s, %s): %v %v", shownConfig(c), shown(tables), r != nil, e)
	}
	return r
}

// refuses wants New to tell that error.
func refuses(t *testing.T, want api.Errno, c api.Config, tables ...string) {
	t.Helper()
	if r, e := route.New(c, tables); r != nil || e != want {
		t.Errorf("New(%s, %s): %v %v, not %v", shownConfig(c), shown(tables), r != nil, e, want)
	}
}

// around wants a table to be refused wherever it stands among others.
func around(t *testing.T, text string) {
	t.Helper()
	c := chapters()
	refuses(t, api.ErrRouteForm, c, text)
	refuses(t, api.ErrRouteForm, c, text, given)
	refuses(t, api.ErrRouteForm, c, given, text)
	refuses(t, api.ErrRouteForm, c, given, text, given)
	refuses(t, api.ErrRouteForm, c, append(slices.Repeat([]string{given}, 7), text)...)
	refuses(t, api.ErrRouteForm, c, text, text)
}

// goes wants a message to a mailbox to go that way next.
func goes(t *testing.T, r *route.Route, p api.Path, transport, next string) {
	t.Helper()
	want := api.Hop{Transport: transport, Next: next}
	if hop, e := r.Hop(p); e != api.OK || hop != want {
		t.Errorf("Hop(%s): %s %v, not %s", named(p), shownHop(hop), e, shownHop(want))
	}
}

// isHere, and isRelayed, want Local, and Relay, to say that of each of these mailboxes.
func isHere(t *testing.T, r *route.Route, want bool, l ...api.Path) {
	t.Helper()
	for _, p := range l {
		if r.Local(p) != want {
			t.Errorf("Local(%s): not %v", named(p), want)
		}
	}
}

func isRelayed(t *testing.T, r *route.Route, want bool, l ...api.Path) {
	t.Helper()
	for _, p := range l {
		if r.Relay(p) != want {
			t.Errorf("Relay(%s): not %v", named(p), want)
		}
	}
}

// allows wants Allowed to say that of each of these mailboxes.
func allows(t *testing.T, r *route.Route, client string, want bool, l ...api.Path) {
	t.Helper()
	for _, p := range l {
		if r.Allowed(client, p) != want {
			t.Errorf("Allowed(%s, %s): not %v", short(client), named(p), want)
		}
	}
}

// isNotAsked wants mailboxes that may not be asked for to be nowhere, whoever sends.
func isNotAsked(t *testing.T, r *route.Route, l ...api.Path) {
	t.Helper()
	isHere(t, r, false, l...)
	isRelayed(t, r, false, l...)
	for _, client := range []string{"10.2.3.4", "192.0.2.1", "::1", "", "x"} {
		allows(t, r, client, false, l...)
	}
	for _, p := range l {
		if hop, e := r.Hop(p); e != api.ErrArg || hop != (api.Hop{}) {
			t.Errorf("Hop(%s): %s %v, not %v", named(p), shownHop(hop), e, api.ErrArg)
		}
	}
}

// wrongPaths may not be; many of them have a domain that is here, that is relayed, or that a table has something for.
func wrongPaths() []api.Path {
	return []api.Path{
		{}, at("", "mx.example"), at("", "far.example"), at("", "bin.example"), at("a", ""), at("Postmaster", ""), at("POSTMASTER", ""), at("postmaster ", ""),
		at("a", "MX.example"), at("a", "here.Example"), at("a", "FAR.example"), at("a", "sub.Far.example"), at("a", "Sub.far.example"), at("a", "BIN.example"), at("a", "mx.example."), at("a", ".mx.example"), at("a", ".far.example"), at("a", "..far.example"), at("a", "-.far.example"), at("a", ".no.example"), at("a", "x..no.example"), at("a", ".example"), at("a", "x_y.far.example"),
		at("a", "@far.example"), at("a", "b@far.example"), at("a", "[10.0.0.1]"), at("a", "[IPv6:::1]"), at("a", " mx.example"), at("a", "mx.example "), at("a", "\u212a.far.example"), at("a", "\xff.far.example"), at("a", "x\n.far.example"), at("a", "-"), at("a", "."),
		at("a\x00", "mx.example"), at("\x80", "mx.example"), at("a\t", "far.example"), at("a\u00e9", "bin.example"), at("a\r\n", "slow.example"),
		atLiteral("a", "mx.example"), atLiteral("a", "far.example"), atLiteral("a", "bin.example"), atLiteral("a", "x"), atLiteral("a", ""), atLiteral("", "10.0.0.1"), atLiteral("a", "[10.0.0.1]"), atLiteral("a", "2001:DB8::1"), atLiteral("a", "IPv6:::1"), atLiteral("a", "0:0:0:0:0:0:0:1"), atLiteral("postmaster", ""), atLiteral("a", "10.0.0.1.1"), atLiteral("a", "10.0.0.01"), atLiteral("a", "10.0.0.0/8"), atLiteral("a\x00", "10.0.0.1"),
		{Null: true, Local: "a", Domain: "mx.example"}, {Null: true, Local: "a", Domain: "far.example"}, {Null: true, Local: "a", Domain: "bin.example"}, {Null: true, Domain: "mx.example"}, {Null: true, Local: "a"}, {Null: true, Local: "postmaster"}, {Null: true, Literal: true}, {Null: true, Local: "a", Domain: "10.0.0.1", Literal: true},
	}
}

// longPaths are too long, by one byte or by many; many of them would be here, or relayed, or in a table.
func longPaths() []api.Path {
	l64 := strings.Repeat("l", 64)
	var l []api.Path
	for _, domain := range []string{"mx.example", "far.example", "sub.far.example", "bin.example", "x.org", domainOf(180)} {
		l = append(l, at(l64+"l", domain), at(l64[2:]+" ", domain), at(strings.Repeat(`"`, 32), domain), at(xs(1000), domain))
	}
	return append(l, at("a", domainOf(253)), at("a", domainOf(241)+".far.example"), at("a", domainOf(242)+".far.example"), at("a", domainOf(256)), at("a", domainOf(1000)), at(l64, domainOf(190)), at(l64, domainOf(178)+".far.example"), atLiteral(l64+"l", "10.0.0.1"), atLiteral(l64+"l", "2001:db8::1"))
}

// isAsked tells whether a mailbox may be asked for.
func isAsked(p api.Path) bool { return p != null && path.Right(p) == api.OK }

// eachByte calls do with each byte as a text.
func eachByte(do func(c byte, s string)) {
	for c := range 256 {
		do(byte(c), string([]byte{byte(c)}))
	}
}

func isOneOf(c byte, those string) bool { return strings.IndexByte(those, c) >= 0 }

// lent is a text whose bytes can be turned behind a call's back.
func lent(s string) (string, []byte) {
	b := []byte(s)
	return unsafe.String(unsafe.SliceData(b), len(b)), b
}

// named is a path as failures tell it.
func named(p api.Path) string {
	s := short(p.Local) + " at " + short(p.Domain)
	if p.Literal {
		s += ", a literal"
	}
	if p.Null {
		s += ", null"
	}
	return s
}

func shownConfig(c api.Config) string { return short(fmt.Sprintf("%+v", c)) }

func shownHop(h api.Hop) string { return short(h.Transport) + " " + short(h.Next) }

// short keeps what is told of a great text readable.
func short(s string) string {
	if len(s) > 120 {
		return fmt.Sprintf("%q..%q of %d bytes", s[:80], s[len(s)-20:], len(s))
	}
	return strconv.Quote(s)
}

func shown(l []string) string {
	s := ""
	for _, text := range l[:min(len(l), 3)] {
		s += short(text) + " "
	}
	return s + fmt.Sprintf("(%d)", len(l))
}

// dice are numbers that look like chance, the same ones each time.
type dice uint64

func (d *dice) roll(n int) int {
	*d = *d*6364136223846793005 + 1442695040888963407
	return int(uint64(*d>>33) % uint64(n))
}

func (d *dice) one(l []string) string { return l[d.roll(len(l))] }
