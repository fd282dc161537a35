package route_test

import (
	"strings"
	"testing"

	"waybill/api"
	"waybill/path"
)

// locals are local parts that turn nothing.
func locals() []string {
	return []string{"a", "A", "a.b", "a b", `"`, `\`, "a@b", "@far.example", "postmaster", "Postmaster", "#", "%", "[10.0.0.1]", strings.Repeat("l", 64)}
}

// everybody are mailboxes of a domain with each of these local parts.
func everybody(domain string) []api.Path {
	var l []api.Path
	for _, local := range locals() {
		l = append(l, at(local, domain))
	}
	return l
}

// TestP17_2NotAsked: who may not be asked for is neither here nor relayed.
func TestP17_2NotAsked(t *testing.T) {
	r := made(t, chapters(), given)
	all := made(t, with(func(c *api.Config) {
		c.Destinations = []string{"bin.example", "example", "x", "10.0.0.1", domainOf(180), domainOf(253), domainOf(190)}
		c.Relays = []string{"example", "org", "x", "10.0.0.1", "e", domainOf(180), domainOf(253), domainOf(190)}
	}))
	for _, p := range wrongPaths() {
		if path.Right(p) != api.ErrPathForm {
			t.Errorf("%s may be", named(p))
		}
	}
	for _, p := range longPaths() {
		if path.Right(p) != api.ErrPathLong {
			t.Errorf("%s is not too long", named(p))
		}
	}
	for _, p := range append(append(wrongPaths(), longPaths()...), null) {
		isNotAsked(t, r, p)
		isNotAsked(t, all, p)
	}
	isHere(t, all, true, at("a", "bin.example"), at("a", domainOf(180)))
	isRelayed(t, all, true, at("a", "bin.example"), at("a", domainOf(180)), at("a", domainOf(240)+".example"))
}

// TestP17_2Hosts: who has no domain is here, and who has the host's, or a destination's, and nobody else.
func TestP17_2Hosts(t *testing.T) {
	apart := with(func(c *api.Config) { c.Destinations = []string{"here.example", "b", "10.0.0.1", domainOf(243)} })
	for _, domain := range []string{"mx.example", "here.example", "b", "10.0.0.1"} {
		isHere(t, made(t, apart), true, everybody(domain)...)
		isHere(t, made(t, apart, rows(domain+" discard:", ".example error:x")), true, everybody(domain)...)
	}
	isHere(t, made(t, apart), true, postmaster, at("postmaster", domainOf(243)))
	for _, domain := range []string{"x.org", "example", "x.example", "mx", "x", "mx.examples", "mx.exampl", "xmx.example", "x.mx.example", "mx.example.x", "mx-example", "mx.example.example", "sub.here.example", "where.example", "ere.example", "her.example", "here", "a.b", "b.b", "bb", "b.a", "10.0.0.2", "10.0.0", "0.0.1", "1.10.0.0.1", "localhost", "localhost.localdomain", "far.example", domainOf(242), domainOf(250)} {
		isHere(t, made(t, apart), false, everybody(domain)[:2]...)
		isHere(t, made(t, apart, rows(domain+" local:", ".example local:")), false, everybody(domain)[:2]...)
	}
	isHere(t, made(t, apart), false, everybody("x.mx.example")...)
	isHere(t, made(t, chapters()), false, everybody("example")...)
	none := with(func(c *api.Config) { c.Destinations = nil })
	isHere(t, made(t, none), true, postmaster, at("a", "mx.example"))
	isHere(t, made(t, none), false, at("a", "here.example"), at("postmaster", "here.example"), at("a", "x.mx.example"))
	isHere(t, made(t, with(func(c *api.Config) { c.Hostname = "other.example" })), true, postmaster, at("a", "other.example"), at("a", "mx.example"), at("a", "here.example"))
	isHere(t, made(t, with(func(c *api.Config) { c.Hostname, c.Destinations = "other.example", nil })), false, at("a", "mx.example"))
	isHere(t, made(t, with(func(c *api.Config) { c.Hostname, c.Destinations = domainOf(255), nil })), true, postmaster)
}

// TestP17_2All: each of very many destinations and relays is met.
func TestP17_2All(t *testing.T) {
	l := numbered(100)
	r := made(t, with(func(c *api.Config) { c.Destinations, c.Relays = l, nil }))
	s := made(t, with(func(c *api.Config) { c.Destinations, c.Relays = nil, l }))
	for _, domain := range l {
		isHere(t, r, true, at("a", domain))
		isHere(t, s, false, at("a", domain), at("a", "x."+domain))
		isRelayed(t, r, false, at("a", domain), at("a", "x."+domain))
		isRelayed(t, s, true, at("a", domain), at("a", "x."+domain), at("a", "x."+domain+"."+domain))
		isRelayed(t, s, false, at("a", "x"+domain), at("a", domain+".x"), at("a", domain+"z"), at("a", "x-"+domain))
	}
	isHere(t, r, false, at("a", "d100"), at("a", "d"))
	isRelayed(t, s, false, at("a", "d100"), at("a", "x.d100"), at("a", "d"))
}

// TestP17_2Literals: an address is nobody's domain, even if its text is one's.
func TestP17_2Literals(t *testing.T) {
	l := []string{"10.0.0.1", "0.0.1", "1", "0.0.0.0", "255.255.255.255"}
	r := made(t, with(func(c *api.Config) { c.Hostname, c.Destinations, c.Relays = "192.0.2.7", l, l }), "10.0.0.1 local:\n")
	for _, address := range append(l, "192.0.2.7") {
		if address != "0.0.1" && address != "1" {
			for _, local := range locals() {
				isHere(t, r, false, atLiteral(local, address))
				isRelayed(t, r, false, atLiteral(local, address))
			}
		}
		isHere(t, r, true, everybody(address)...)
		isRelayed(t, r, address != "192.0.2.7", everybody(address)...)
	}
	for _, address := range []string{"10.2.3.4", "127.0.0.1", "::", "::1", "2001:db8::1"} {
		isHere(t, r, false, atLiteral("a", address), atLiteral("postmaster", address))
		isRelayed(t, r, false, atLiteral("a", address), atLiteral("postmaster", address))
	}
	isRelayed(t, r, true, at("a", "10.0.0.1"), at("a", "9.0.0.1"), at("a", "9.1"))
}

// TestP17_2Relays: a domain, and all below it, and nothing that just ends with its letters.
func TestP17_2Relays(t *testing.T) {
	r := made(t, with(func(c *api.Config) { c.Relays = []string{"far.example", "a.b.c", "org", domainOf(240)} }))
	for _, domain := range []string{"far.example", "sub.far.example", "a.b.far.example", "far.far.example", "example.far.example", "far.example.far.example", "-x.far.example"[1:], "0.far.example", "a.b.c", "x.a.b.c", "org", "x.org", "a.b.org", "example.org", "far.example.org", domainOf(240), "x." + domainOf(240), "org.far.example"} {
		isRelayed(t, r, true, everybody(domain)[:4]...)
		isHere(t, r, false, everybody(domain)[:4]...)
	}
	isRelayed(t, r, true, everybody("sub.far.example")...)
	isRelayed(t, r, true, everybody("far.example")...)
	for _, domain := range []string{"xfar.example", "ar.example", "r.example", "example", "far", "fa.example", "far.exampl", "far.examples", "far.example.x", "x-far.example", "sub.xfar.example", "sub-far.example", "x.ar.example", "farexample", "far-example", "b.c", "c", "xa.b.c", "x.b.c", "a.b", "a.b.cc", "a.b.c.d", "or", "xorg", "rg", "g", "org.x", "a-org", "mx.example", "here.example", "x", domainOf(239), "x" + domainOf(240), domainOf(241)} {
		isRelayed(t, r, false, everybody(domain)[:4]...)
		isRelayed(t, made(t, chapters(), rows(domain+" smtp:far.example", ".example smtp:")), false, at("a", domain))
	}
	isRelayed(t, r, false, postmaster)
	isRelayed(t, r, false, everybody("xfar.example")...)
	both := made(t, with(func(c *api.Config) { c.Relays = []string{"mx.example", "here.example"} }))
	isRelayed(t, both, true, at("a", "mx.example"), at("a", "x.here.example"))
	isHere(t, both, true, at("a", "mx.example"), at("a", "here.example"))
	isHere(t, both, false, at("a", "x.here.example"))
	isRelayed(t, made(t, with(func(c *api.Config) { c.Relays = nil })), false, postmaster, at("a", "far.example"), at("a", "mx.example"), at("a", "x"))
}
