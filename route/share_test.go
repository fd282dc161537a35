package route_test

import (
	"reflect"
	"slices"
	"testing"

	"waybill/api"
	"waybill/route"
)

// TestR3New: what a Route knows hangs on what was handed in no more, which stays as it is.
func TestR3New(t *testing.T) {
	const other = "z.org smtp:Other.example\n.z.org error:No\n"
	var bytes [][]byte
	lend := func(s string) string {
		text, b := lent(s)
		bytes = append(bytes, b)
		return text
	}
	lendAll := func(l []string) []string {
		var all []string
		for _, s := range l {
			all = append(all, lend(s))
		}
		return all
	}
	c := with(func(c *api.Config) {
		c.Hostname, c.RelayHost = lend("mx.example"), lend("[2001:db8::7]")
		c.Destinations, c.Relays = lendAll([]string{"here.example", "there.example"}), lendAll(c.Relays)
		c.Transport = lendAll([]string{"one", "two"})
	})
	spare := slices.Grow(c.Destinations, 10)
	c.Destinations = spare
	tables := []string{lend(given), lend(other)}
	r, e := route.New(c, tables[:2:2])
	want := with(func(c *api.Config) {
		c.Destinations, c.RelayHost, c.Transport = []string{"here.example", "there.example"}, "[2001:db8::7]", []string{"one", "two"}
	})
	if e != api.OK || !reflect.DeepEqual(c, want) || !slices.Equal(tables, []string{given, other}) {
		t.Fatalf("%v %+v %q", e, c, tables)
	}
	if spare = spare[:10]; !slices.Equal(spare[2:], make([]string, 8)) {
		t.Fatalf("%q", spare)
	}
	for _, b := range bytes {
		clear(b)
	}
	clear(spare)
	clear(c.Relays)
	clear(c.Networks)
	clear(tables)
	for range 2 {
		goes(t, r, at("a", "slow.example"), "smtp", "[10.0.0.9]")
		goes(t, r, at("a", "x.no.example"), "error", "go away")
		goes(t, r, at("a", "z.org"), "smtp", "other.example")
		goes(t, r, at("a", "x.z.org"), "error", "No")
		goes(t, r, at("a", "mx.example"), "local", "")
		goes(t, r, at("a", "here.example"), "local", "")
		goes(t, r, at("a", "there.example"), "local", "")
		goes(t, r, at("a", "x.org"), "smtp", "[2001:db8::7]")
		isRelayed(t, r, true, at("a", "far.example"), at("a", "x.far.example"))
		allows(t, r, "10.2.3.4", true, at("a", "x.org"))
		allows(t, r, "192.0.2.1", false, at("a", "x.org"))
	}
}

// TestR3Told: what is told shares nothing with what was asked, whichever way it goes.
func TestR3Told(t *testing.T) {
	for _, r := range []*route.Route{made(t, chapters(), given, ".own.example smtp:\n"), made(t, by("relay.example"), given, ".own.example smtp:\n")} {
		for _, p := range []api.Path{at("a", "x.org"), at("a", "slow.example"), at("a", "x.no.example"), at("a", "bin.example"), at("a", "mx.example"), at("a", "x.own.example"), postmaster, atLiteral("a", "10.0.0.1"), atLiteral("a", "2001:db8::1"), at("a", "X"), at("", "mx.example")} {
			want, code := r.Hop(p)
			local, l := lent(p.Local)
			domain, d := lent(p.Domain)
			client, a := lent("10.2.3.4")
			q := api.Path{Local: local, Domain: domain, Literal: p.Literal}
			got, e := r.Hop(q)
			r.Local(q)
			r.Relay(q)
			r.Allowed(client, q)
			if string(l) != p.Local || string(d) != p.Domain || string(a) != "10.2.3.4" {
				t.Errorf("%s was turned into %q %q, %q", named(p), l, d, a)
			}
			clear(l)
			clear(d)
			clear(a)
			if got != want || e != code {
				t.Errorf("Hop(%s): %s %v, not %s %v", named(p), shownHop(got), e, shownHop(want), code)
			}
			if got, e := r.Hop(p); got != want || e != code {
				t.Errorf("Hop(%s) is %s now", named(p), shownHop(got))
			}
		}
	}
}

// TestR2None: nil and empty are the same.
func TestR2None(t *testing.T) {
	for _, none := range [][]string{nil, {}, {""}, {"", "", ""}} {
		for _, turn := range []func(c *api.Config){
			func(c *api.Config) { c.Destinations, c.Relays, c.Networks = nil, nil, nil },
			func(c *api.Config) { c.Destinations, c.Relays, c.Networks = []string{}, []string{}, []api.Net{} },
		} {
			r := made(t, with(turn), none...)
			goes(t, r, postmaster, "local", "")
			goes(t, r, at("a", "mx.example"), "local", "")
			goes(t, r, at("a", "here.example"), "smtp", "here.example")
			isRelayed(t, r, false, at("a", "far.example"))
			allows(t, r, "10.2.3.4", false, at("a", "x.org"))
			isNotAsked(t, r, null, api.Path{})
		}
	}
}

// TestR4Apart: several hang on one another in nothing, and what one was asked turns no later answer.
func TestR4Apart(t *testing.T) {
	r := made(t, chapters(), given)
	s := made(t, with(func(c *api.Config) {
		c.Hostname, c.Destinations, c.Relays, c.Networks, c.RelayHost = "other.example", nil, nil, nets("192.0.2.0/24"), "relay.example"
	}), "x.org discard:\n")
	for range 3 {
		goes(t, r, at("a", "x.org"), "smtp", "x.org")
		goes(t, s, at("a", "x.org"), "discard", "")
		goes(t, r, at("a", "mx.example"), "local", "")
		goes(t, s, at("a", "mx.example"), "smtp", "relay.example")
		goes(t, s, at("a", "bin.example"), "smtp", "relay.example")
		goes(t, r, at("a", "bin.example"), "discard", "")
		isNotAsked(t, r, null)
		isNotAsked(t, s, null)
		allows(t, r, "10.2.3.4", true, at("a", "x.org"))
		allows(t, s, "10.2.3.4", false, at("a", "x.org"))
		allows(t, s, "192.0.2.1", true, at("a", "x.org"))
		allows(t, r, "192.0.2.1", false, at("a", "x.org"))
	}
}
