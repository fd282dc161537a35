package route_test

import (
	"fmt"
	"strings"
	"testing"

	"waybill/api"
	"waybill/path"
)

func TestP17_4Examples(t *testing.T) {
	r := made(t, chapters(), given)
	goes(t, r, at("a", "here.example"), "local", "")
	goes(t, r, postmaster, "local", "")
	goes(t, r, at("a", "x.org"), "smtp", "x.org")
	goes(t, r, atLiteral("a", "10.1.1.1"), "smtp", "[10.1.1.1]")
	goes(t, r, at("a", "slow.example"), "smtp", "[10.0.0.9]")
	goes(t, r, at("a", "q.no.example"), "error", "go away")
	goes(t, r, at("a", "bin.example"), "discard", "")
}

// keysFor are keys by which a table could have something for a mailbox.
func keysFor(p api.Path) []string {
	var l []string
	seen := map[string]int{}
	for _, key := range append(keysOf(p.Domain), "["+p.Domain+"]", "[ipv6:"+p.Domain+"]", "@"+p.Domain, p.Local+"@"+p.Domain, p.Local, ".", "@", "*", "postmaster", "x") {
		isKey := key != "" && len(key) <= 320 && key[0] != '#' && !strings.ContainsFunc(key, func(r rune) bool { return r <= ' ' || r > '~' })
		if key = lowered(key); isKey && seen[key] == 0 {
			seen[key]++
			l = append(l, key)
		}
	}
	return l
}

// askingFor is a table that has something for a mailbox by each of its keys.
func askingFor(p api.Path, value string) string {
	return strings.Join(keysFor(p), " "+value+"\n") + " " + value + "\n"
}

// TestP17_4NotAsked: who may not be asked for goes nowhere, whatever the tables say.
func TestP17_4NotAsked(t *testing.T) {
	r, s := made(t, chapters(), given), made(t, by("relay.example"), given)
	for _, p := range append(append(wrongPaths(), longPaths()...), null) {
		if isAsked(p) {
			t.Errorf("%s may be asked for", named(p))
		}
		isNotAsked(t, r, p)
		isNotAsked(t, s, p)
		isNotAsked(t, made(t, chapters(), askingFor(p, "local:")), p)
		isNotAsked(t, made(t, chapters(), given, askingFor(p, "discard:")), p)
	}
}

// TestP17_4NoDomain: of a literal, and of an empty domain, the tables are not asked.
func TestP17_4NoDomain(t *testing.T) {
	for _, p := range []api.Path{postmaster, atLiteral("a", "10.0.0.1"), atLiteral("postmaster", "10.0.0.1"), atLiteral("a b", "0.0.0.0"), atLiteral("a", "::"), atLiteral("a", "::1"), atLiteral("a@b", "2001:db8::1"), atLiteral(`"@[`, "1:2:3:4:5:6:7:8")} {
		if path.Right(p) != api.OK {
			t.Errorf("%s may not be", named(p))
		}
		form := "[" + p.Domain + "]"
		if strings.Contains(p.Domain, ":") {
			form = "[IPv6:" + p.Domain + "]"
		}
		for _, value := range []string{"local:", "discard:", "smtp:", "smtp:y", "smtp:[10.9.9.9]", "error:x"} {
			for _, tables := range [][]string{{}, {askingFor(p, value)}, {given, askingFor(p, value)}, {askingFor(p, value), given}} {
				for _, relay := range []string{"", "relay.example", "[10.0.0.7]", "[2001:db8::7]"} {
					r := made(t, by(relay), tables...)
					switch {
					case p == postmaster:
						goes(t, r, p, "local", "")
					case relay == "":
						goes(t, r, p, "smtp", form)
					default:
						goes(t, r, p, "smtp", relay)
					}
				}
			}
		}
	}
	for _, p := range []api.Path{at("a", "10.0.0.1"), at("postmaster", "10.0.0.1"), at("postmaster", "x"), at("a", "1")} {
		goes(t, made(t, chapters(), askingFor(p, "discard:")), p, "discard", "")
	}
}

// TestP17_4NoEntry: without an entry who is here stays, and all others go to the relay, or to their domains.
func TestP17_4NoEntry(t *testing.T) {
	for _, tables := range [][]string{{}, {""}, {"# x\n"}, {given}, {given, given, rows("other.org local:", ".sub.x.org discard:", "org error:x", "example error:x", "here error:x")}} {
		for _, relay := range []string{"", "relay.example", "x.org", "mx.example", domainOf(255), "[10.0.0.7]", "[2001:db8::7]", "[::]"} {
			r := made(t, by(relay), tables...)
			goes(t, r, postmaster, "local", "")
			for _, domain := range []string{"mx.example", "here.example"} {
				for _, p := range everybody(domain) {
					goes(t, r, p, "local", "")
				}
			}
			for _, domain := range []string{"x.org", "far.example", "sub.far.example", "x.mx.example", "no.example", "x", "10.0.0.1", "relay.example", "sub.x.org", domainOf(189)} {
				next := domain
				if relay != "" {
					next = relay
				}
				for _, p := range everybody(domain) {
					goes(t, r, p, "smtp", next)
				}
			}
		}
	}
	r := made(t, chapters())
	for _, size := range []int{1, 63, 64, 190, 251, 252} {
		goes(t, r, at("a", domainOf(size)), "smtp", domainOf(size))
	}
}

// TestP17_4Values: each kind of value, for who is here, who is relayed and who is neither, with a relay and without.
func TestP17_4Values(t *testing.T) {
	for _, relay := range []string{"", "relay.example", "[10.0.0.7]"} {
		for _, domain := range []string{"x.org", "mx.example", "here.example", "far.example", "sub.far.example", "10.0.0.1", "relay.example", domainOf(252)} {
			for value, want := range map[string][2]string{
				"local:":                    {"local", ""},
				"discard:":                  {"discard", ""},
				"smtp:":                     {"smtp", domain},
				"smtp:y.example":            {"smtp", "y.example"},
				"smtp:Y.Example":            {"smtp", "y.example"},
				"smtp:mx.example":           {"smtp", "mx.example"},
				"smtp:10.0.0.9":             {"smtp", "10.0.0.9"},
				"smtp:[10.0.0.9]":           {"smtp", "[10.0.0.9]"},
				"smtp:[ipv6:2001:DB8::0:1]": {"smtp", "[IPv6:2001:db8::1]"},
				"smtp:[IPv6:::]":            {"smtp", "[IPv6:::]"},
				"smtp:" + domainOf(255):     {"smtp", domainOf(255)},
				"error:go away":             {"error", "go away"},
				"error:" + domain:           {"error", domain},
				"error:smtp:y":              {"error", "smtp:y"},
				"error:" + xs(400):          {"error", xs(400)},
			} {
				r := made(t, by(relay), rows("q "+value, domain+" "+value))
				for _, p := range []api.Path{at("a", domain), at("%", domain)} {
					goes(t, r, p, want[0], want[1])
				}
				goes(t, made(t, by(relay), given, rows(strings.ToUpper(domain)+"\t"+value), domain+" error:later"), at("a", domain), want[0], want[1])
			}
		}
	}
}

// TestP17_4Below: what stands ahead of a domain that a key's dot stands for turns nothing; smtp alone is to the mailbox's own domain, not to the key's.
func TestP17_4Below(t *testing.T) {
	r := made(t, by("relay.example"), rows(".x.org smtp:", ".org smtp:[10.0.0.9]", ".y.org discard:", ".c local:", "w.c error:w", ".w.c error:below", ".0.1 smtp:"))
	goes(t, r, at("a", "q.x.org"), "smtp", "q.x.org")
	goes(t, r, at("a", "p.q.x.org"), "smtp", "p.q.x.org")
	goes(t, r, at("a", "x.org"), "smtp", "[10.0.0.9]")
	goes(t, r, at("a", "q.org"), "smtp", "[10.0.0.9]")
	goes(t, r, at("a", "qx.org"), "smtp", "[10.0.0.9]")
	goes(t, r, at("a", "q.y.org"), "discard", "")
	goes(t, r, at("a", "org"), "smtp", "relay.example")
	goes(t, r, at("a", "xorg"), "smtp", "relay.example")
	goes(t, r, at("a", "org.x"), "smtp", "relay.example")
	goes(t, r, at("a", "a.b.c"), "local", "")
	goes(t, r, at("a", "w.c"), "error", "w")
	goes(t, r, at("a", "a.w.c"), "error", "below")
	goes(t, r, at("a", "a.b.w.c"), "error", "below")
	goes(t, r, at("a", "c"), "smtp", "relay.example")
	goes(t, r, at("a", "10.0.0.1"), "smtp", "10.0.0.1")
	goes(t, r, atLiteral("a", "10.0.0.1"), "smtp", "relay.example")
	goes(t, made(t, chapters(), ".example error:x"), at("a", "mx.example"), "error", "x")
	goes(t, made(t, chapters(), ".mx.example error:x"), at("a", "mx.example"), "local", "")
	goes(t, made(t, chapters(), ".far.example error:x"), at("a", "far.example"), "smtp", "far.example")
}

// TestP17_4Keys: which of the keys of one domain is taken, in one table and in several.
func TestP17_4Keys(t *testing.T) {
	p := at("a", "d.c.b")
	keys := []string{"d.c.b", ".c.b", ".b"}
	for taken := range 1 << 6 { // which of them stand in the first table, and in the second one
		var tables [2]string
		want := ""
		for n := range tables {
			for k, key := range keys {
				if taken&(1<<(3*n+k)) == 0 {
					continue
				}
				reason := fmt.Sprintf("%d%s", n, key)
				tables[n] += key + " error:" + reason + "\n"
				if want == "" {
					want = reason
				}
			}
		}
		for _, l := range [][]string{{tables[0], tables[1]}, {"", tables[0], given, tables[1], "d.c.b error:last\n"}} {
			r := made(t, chapters(), l...)
			switch {
			case want != "":
				goes(t, r, p, "error", want)
			case len(l) == 2:
				goes(t, r, p, "smtp", "d.c.b")
			default:
				goes(t, r, p, "error", "last")
			}
		}
	}
	r := made(t, chapters(), rows("a@d.c.b error:address", "@d.c.b error:at", "c.b error:parent", "b error:top", "d.c error:front", "d error:label", ".d.c.b error:below", "a error:local", ". error:dot", "@ error:sign", "* error:all"))
	goes(t, r, p, "smtp", "d.c.b")
	goes(t, r, at("a", "c.b"), "error", "parent")
	goes(t, r, at("a", "x.d.c.b"), "error", "below")
}

// TestP17_4Letters: a local part turns nothing, a key's letters neither.
func TestP17_4Letters(t *testing.T) {
	r := made(t, chapters(), rows("X.Org smtp:Y.EXAMPLE", ".NO.org error:Go Away", "bin.ORG discard:"))
	for _, p := range everybody("x.org") {
		goes(t, r, p, "smtp", "y.example")
	}
	for _, p := range everybody("x.no.org") {
		goes(t, r, p, "error", "Go Away")
	}
	for _, p := range everybody("bin.org") {
		goes(t, r, p, "discard", "")
	}
}
