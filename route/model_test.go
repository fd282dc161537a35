package route_test

import (
	"net/netip"
	"regexp"
	"slices"
	"strings"

	"waybill/api"
	"waybill/config"
	"waybill/path"
	"waybill/table"
)

// The model is the chapter's words: values by a pattern, entries in rows, a domain's keys in a list, networks as the library has them.

var rightValue = regexp.MustCompile(`\A(?:(local|discard|smtp):|(smtp):([^:]*|\[.*\])|(error):(.{1,400}))\z`)

type entry struct{ key, transport, behind string }

type model struct {
	c      api.Config
	tables [][]entry
}

func lowered(s string) string {
	return strings.Map(func(r rune) rune {
		if 'A' <= r && r <= 'Z' {
			return r - 'A' + 'a'
		}
		return r
	}, s)
}

// hostOf is the form of a domain, or of a literal, as a text; false, if it is neither.
func hostOf(s string) (string, bool) {
	domain, isLiteral, e := path.Domain(s)
	if isLiteral {
		form, _ := path.Show(atLiteral("a", domain))
		return form[len("a@"):], true
	}
	return domain, e == api.OK
}

// modelValue is a value's transport, and what is to stand behind it (of smtp its form); false, if it may not be.
func modelValue(value string) (string, string, bool) {
	m := rightValue.FindStringSubmatch(value)
	if m == nil {
		return "", "", false
	}
	if m[2] == "smtp" {
		host, is := hostOf(m[3])
		return "smtp", host, is
	}
	return m[1] + m[4], m[5], true
}

func modelNew(c api.Config, tables []string) (model, api.Errno) {
	if !config.Right(c) || len(tables) > 8 {
		return model{}, api.ErrArg
	}
	m := model{c: c}
	for _, text := range tables {
		x, f := table.Parse(text)
		if f.Code != api.OK {
			return model{}, api.ErrRouteForm
		}
		var l []entry
		for k := 0; k < x.Len(); k++ {
			key, value, _ := x.At(k)
			transport, behind, is := modelValue(value)
			if !is {
				return model{}, api.ErrRouteForm
			}
			l = append(l, entry{key, transport, behind})
		}
		m.tables = append(m.tables, l)
	}
	return m, api.OK
}

func (m model) local(p api.Path) bool {
	if !isAsked(p) {
		return false
	}
	return p == postmaster || !p.Literal && (p.Domain == m.c.Hostname || slices.Contains(m.c.Destinations, p.Domain))
}

func (m model) relay(p api.Path) bool {
	if !isAsked(p) || p.Literal {
		return false
	}
	labels := strings.Split(p.Domain, ".")
	for i := range labels {
		if domain := strings.Join(labels[i:], "."); domain != "" && slices.Contains(m.c.Relays, domain) {
			return true
		}
	}
	return false
}

// near tells whether a text is an address that lies in one of the networks.
func (m model) near(client string) bool {
	addr, e := netip.ParseAddr(client)
	if e != nil || addr.Zone() != "" || addr.Is6() && strings.Contains(client, ".") {
		return false
	}
	for _, n := range m.c.Networks {
		net := netip.PrefixFrom(netip.AddrFrom4([4]byte(n.Addr[:4])), n.Bits)
		if n.Six {
			net = netip.PrefixFrom(netip.AddrFrom16(n.Addr), n.Bits)
		}
		if net.Contains(addr) {
			return true
		}
	}
	return false
}

func (m model) allowed(client string, p api.Path) bool {
	return isAsked(p) && (m.local(p) || m.relay(p) || m.near(client))
}

// keysOf are the keys of a domain, in the order in which they are looked for.
func keysOf(domain string) []string {
	l := []string{domain}
	for i := 1; i < len(domain); i++ {
		if domain[i] == '.' {
			l = append(l, domain[i:])
		}
	}
	return l
}

func (m model) hop(p api.Path) (api.Hop, api.Errno) {
	if !isAsked(p) {
		return api.Hop{}, api.ErrArg
	}
	if p.Literal || p.Domain == "" {
		m.tables = nil
	}
	for _, l := range m.tables {
		for _, key := range keysOf(p.Domain) {
			i := slices.IndexFunc(l, func(x entry) bool { return x.key == key })
			if i < 0 {
				continue
			}
			hop := api.Hop{Transport: l[i].transport, Next: l[i].behind}
			if hop == (api.Hop{Transport: "smtp"}) {
				hop.Next = p.Domain
			}
			return hop, api.OK
		}
	}
	if m.local(p) {
		return api.Hop{Transport: "local"}, api.OK
	}
	next := m.c.RelayHost
	if next == "" {
		next = p.Domain
		if p.Literal {
			form, _ := path.Show(p)
			next = form[strings.LastIndexByte(form, '@')+1:]
		}
	}
	return api.Hop{Transport: "smtp", Next: next}, api.OK
}
