package config_test

import (
	"fmt"
	"reflect"
	"strconv"
	"strings"
	"testing"

	"waybill/api"
	"waybill/config"
)

// parsed is what a text without a fault says.
func parsed(t *testing.T, text string) api.Config {
	t.Helper()
	c, f := config.Parse(text)
	if f != (api.Fault{}) {
		t.Fatalf("Parse(%s): %v", short(text), f)
	}
	if !config.Right(c) {
		t.Fatalf("Parse(%s): %+v may not be", short(text), c)
	}
	return c
}

// reads wants a text to say what the defaults say, turned so.
func reads(t *testing.T, text string, turn func(c *api.Config)) {
	t.Helper()
	if c, want := parsed(t, text), with(turn); !same(c, want) {
		t.Errorf("Parse(%s): %+v, not %+v", short(text), c, want)
	}
}

// refuses wants a text to have that fault.
func refuses(t *testing.T, text string, code api.Errno, at int) {
	t.Helper()
	c, f := config.Parse(text)
	if f != (api.Fault{Code: code, At: at}) {
		t.Errorf("Parse(%s): %v, not %v at %d", short(text), f, code, at)
	}
	if !same(c, api.Config{}) {
		t.Errorf("Parse(%s): beside a fault %+v", short(text), c)
	}
}

// written is the text of a configuration that has one.
func written(t *testing.T, c api.Config) string {
	t.Helper()
	s, e := config.Show(c)
	if e != api.OK || !config.Right(c) {
		t.Fatalf("Show(%+v): %v; Right: %v", c, e, config.Right(c))
	}
	return s
}

// notShown wants a configuration to have no text.
func notShown(t *testing.T, c api.Config, want api.Errno) {
	t.Helper()
	if s, e := config.Show(c); s != "" || e != want {
		t.Errorf("Show(%s): %s %v, not %v", short(fmt.Sprintf("%+v", c)), short(s), e, want)
	}
	if is := want != api.ErrConfigValue; config.Right(c) != is {
		t.Errorf("Right(%s): not %v", short(fmt.Sprintf("%+v", c)), is)
	}
}

// defaults are those of the chapter's table, written apart from the program.
func defaults() api.Config {
	return api.Config{
		Hostname: "localhost.localdomain", Destinations: []string{"localhost.localdomain"},
		Networks:     []api.Net{{Bits: 8, Addr: [16]byte{127}}},
		DoubleBounce: "double-bounce", SizeLimit: 102400, RcptLimit: 100, ErrorLimit: 20, HopLimit: 50, MailboxLimit: 51200000, Lifetime: 432000, MinBackoff: 300, MaxBackoff: 4000, DestLimit: 20, InitialDest: 5,
	}
}

func with(turn func(c *api.Config)) api.Config {
	c := defaults()
	turn(&c)
	return c
}

func asTheyAre(c *api.Config) {}

// same tells whether two say the same: of lists nil and empty are (R2).
func same(a, b api.Config) bool {
	for _, c := range []*api.Config{&a, &b} {
		for _, l := range []*[]string{&c.Destinations, &c.Relays, &c.Virtual, &c.Canonical, &c.Transport} {
			if len(*l) == 0 {
				*l = nil
			}
		}
		if len(c.Networks) == 0 {
			c.Networks = nil
		}
	}
	return reflect.DeepEqual(a, b)
}

// numberParam is a parameter that is a number, as the chapter's table has it.
type numberParam struct {
	name              string
	least, most, much int
	field             func(c *api.Config) *int
}

func numbers() []numberParam {
	return []numberParam{
		{"destination_concurrency", 1, 1000, 20, func(c *api.Config) *int { return &c.DestLimit }},
		{"hopcount_limit", 1, 1000, 50, func(c *api.Config) *int { return &c.HopLimit }},
		{"initial_concurrency", 1, 1000, 5, func(c *api.Config) *int { return &c.InitialDest }},
		{"mailbox_size_limit", 0, 67108864, 51200000, func(c *api.Config) *int { return &c.MailboxLimit }},
		{"maximal_backoff", 1, 1000000, 4000, func(c *api.Config) *int { return &c.MaxBackoff }},
		{"message_size_limit", 1, 1048576, 102400, func(c *api.Config) *int { return &c.SizeLimit }},
		{"minimal_backoff", 1, 1000000, 300, func(c *api.Config) *int { return &c.MinBackoff }},
		{"queue_lifetime", 0, 100000000, 432000, func(c *api.Config) *int { return &c.Lifetime }},
		{"smtpd_error_limit", 1, 1000, 20, func(c *api.Config) *int { return &c.ErrorLimit }},
		{"smtpd_recipient_limit", 1, 200, 100, func(c *api.Config) *int { return &c.RcptLimit }},
	}
}

// apart are lines that keep two parameters with a bound between them from being wrong together, whatever the one of that name is.
func apart(name string) string {
	switch name {
	case "destination_concurrency":
		return "initial_concurrency = 1\n"
	case "initial_concurrency":
		return "destination_concurrency = 1000\n"
	case "maximal_backoff":
		return "minimal_backoff = 1\n"
	case "minimal_backoff":
		return "maximal_backoff = 1000000\n"
	}
	return ""
}

// domainLists and tableLists are the parameters that are lists of these.
func domainLists() map[string]func(c *api.Config) *[]string {
	return map[string]func(c *api.Config) *[]string{
		"mydestination": func(c *api.Config) *[]string { return &c.Destinations },
		"relay_domains": func(c *api.Config) *[]string { return &c.Relays },
	}
}

func tableLists() map[string]func(c *api.Config) *[]string {
	return map[string]func(c *api.Config) *[]string{
		"canonical_maps":     func(c *api.Config) *[]string { return &c.Canonical },
		"transport_maps":     func(c *api.Config) *[]string { return &c.Transport },
		"virtual_alias_maps": func(c *api.Config) *[]string { return &c.Virtual },
	}
}

// four and six are ranges made of bytes, those behind them 0.
func four(bits int, addr ...byte) api.Net {
	n := api.Net{Bits: bits}
	copy(n.Addr[:], addr)
	return n
}

func six(bits int, addr ...byte) api.Net {
	n := four(bits, addr...)
	n.Six = true
	return n
}

// last is an address of IPv6 whose last byte is that, the others 0.
func last(b byte) api.Net { return api.Net{Six: true, Bits: 128, Addr: [16]byte{15: b}} }

// join puts lines together, each with its end.
func join(lines ...string) string { return strings.Join(lines, "\n") + "\n" }

// counted are so many domains, all unlike.
func counted(n int) []string {
	var l []string
	for i := range n {
		l = append(l, fmt.Sprintf("d%d", i))
	}
	return l
}

// longDomain is a domain of that many bytes.
func longDomain(n int) string {
	s := strings.Repeat(strings.Repeat("a", 63)+".", n/64) + strings.Repeat("b", n%64)
	if strings.HasSuffix(s, ".") {
		s = s[:len(s)-3] + ".b" + "c"
	}
	return s
}

// short keeps what is told of a great text readable.
func short(s string) string {
	if len(s) > 100 {
		return fmt.Sprintf("%q.. of %d bytes", s[:100], len(s))
	}
	return strconv.Quote(s)
}

// dice are numbers that look like chance, the same ones each time.
type dice uint64

func (d *dice) roll(n int) int {
	*d = *d*6364136223846793005 + 1442695040888963407
	return int(uint64(*d>>33) % uint64(n))
}

func (d *dice) one(l []string) string { return l[d.roll(len(l))] }
