package config_test

import (
	"fmt"
	"slices"
	"strings"
	"testing"

	"waybill/api"
	"waybill/config"
)

func TestP8_1Names(t *testing.T) {
	want := strings.Fields("canonical_maps destination_concurrency double_bounce_sender hopcount_limit initial_concurrency mailbox_size_limit maximal_backoff message_size_limit minimal_backoff mydestination myhostname mynetworks queue_lifetime relay_domains relayhost smtpd_error_limit smtpd_recipient_limit transport_maps virtual_alias_maps")
	l := config.Names()
	if !slices.Equal(l, want) || !slices.IsSorted(l) {
		t.Errorf("%v, not %v", l, want)
	}
	l[0], l = "turned", append(l[:1], "more")
	if l = config.Names(); !slices.Equal(l, want) {
		t.Errorf("what was told is told again: %v", l)
	}
	for _, name := range want {
		if _, f := config.Parse(name + " = "); f.Code != api.OK && f.Code != api.ErrConfigValue {
			t.Errorf("%s: %v", name, f)
		}
	}
}

func TestP8_1Default(t *testing.T) {
	c := config.Default()
	if d := parsed(t, ""); !same(c, d) || !same(c, defaults()) {
		t.Errorf("Default: %+v; of an empty text: %+v", c, d)
	}
	if !config.Right(c) {
		t.Error("Default may not be")
	}
}

func TestP8_3Right(t *testing.T) {
	right, _ := domainTexts()
	for _, c := range []api.Config{
		defaults(),
		with(func(c *api.Config) { c.Destinations, c.Networks = nil, nil }),
		with(func(c *api.Config) {
			c.Destinations, c.Relays, c.Virtual, c.Canonical, c.Transport, c.Networks = []string{}, []string{}, []string{}, []string{}, []string{}, []api.Net{}
		}),
		with(func(c *api.Config) { c.Destinations, c.Relays = right, append(right, right...) }),
		with(func(c *api.Config) {
			c.Networks = []api.Net{four(8, 10), four(8, 10), last(1), six(0), four(0), six(10, 0xfe, 0x80)}
		}),
		with(func(c *api.Config) { c.Virtual = strings.Fields("a b c d e f g h") }),
		with(func(c *api.Config) { c.RelayHost = "[2001:db8::1]" }),
		with(func(c *api.Config) { c.RelayHost = "[1.2.3.4]" }),
		with(func(c *api.Config) { c.RelayHost = longDomain(255) }),
		with(func(c *api.Config) { c.DoubleBounce = strings.Repeat("x", 64) }),
		with(func(c *api.Config) { c.InitialDest = 20 }),
		with(func(c *api.Config) { c.MinBackoff = 4000 }),
	} {
		if !config.Right(c) {
			t.Errorf("%+v: may be", c)
		}
	}
	for _, s := range right {
		if !config.Right(with(func(c *api.Config) { c.Hostname, c.RelayHost = s, s })) {
			t.Errorf("%s: may be", short(s))
		}
	}
}

func TestP8_3NumbersWrong(t *testing.T) {
	notShown(t, api.Config{}, api.ErrConfigValue)
	for _, p := range numbers() {
		for _, n := range []int{p.least, p.most, p.much} {
			c := parsed(t, apart(p.name))
			*p.field(&c) = n
			if !config.Right(c) {
				t.Errorf("%s of %d: may be", p.name, n)
			}
		}
		for _, n := range []int{p.least - 1, p.most + 1, -1, -p.most, -1 << 63, 1<<63 - 1, 1<<32 + p.much} {
			c := parsed(t, apart(p.name))
			*p.field(&c) = n
			notShown(t, c, api.ErrConfigValue)
		}
	}
	notShown(t, with(func(c *api.Config) { c.InitialDest = 21 }), api.ErrConfigValue)
	notShown(t, with(func(c *api.Config) { c.DestLimit = 4 }), api.ErrConfigValue)
	notShown(t, with(func(c *api.Config) { c.MinBackoff = 4001 }), api.ErrConfigValue)
	notShown(t, with(func(c *api.Config) { c.MaxBackoff = 299 }), api.ErrConfigValue)
}

func TestP8_3TextsWrong(t *testing.T) {
	_, wrong := domainTexts()
	noText := append(wrong, "A", "a.B", "Mail.example.org", "a b", "a,b", "a\n", "\na", "a\x00", "\xc8", "a\xc8b", "é", "K", "$myhostname", "$", " ", " a", "a ", "a = b", "#")
	for _, s := range noText {
		notShown(t, with(func(c *api.Config) { c.Hostname = s }), api.ErrConfigValue)
		for _, l := range [][]string{{s}, {"a", s}, {s, "a"}, {"a", s, "b"}} {
			notShown(t, with(func(c *api.Config) { c.Destinations = l }), api.ErrConfigValue)
			notShown(t, with(func(c *api.Config) { c.Relays = l }), api.ErrConfigValue)
		}
		if s != "[1.2.3.4]" {
			notShown(t, with(func(c *api.Config) { c.RelayHost = s }), api.ErrConfigValue)
		}
	}
	notShown(t, with(func(c *api.Config) { c.Hostname = "" }), api.ErrConfigValue)
	notShown(t, with(func(c *api.Config) { c.Destinations = []string{""} }), api.ErrConfigValue)
	notShown(t, with(func(c *api.Config) { c.Relays = []string{"a", "", "b"} }), api.ErrConfigValue)
	for _, s := range []string{"[]", "[", "]", "[a]", "[A]", "[1.2.3.4", "1.2.3.4]", "[::1", "::1", "[0:0:0:0:0:0:0:1]", "[2001:DB8::1]", "[::01]", "[2001:db8::0:1]", "[1.2.3.4/32]", "[10.0.0.0/8]", "[::/0]", "[1.2.3.4] ", " [1.2.3.4]", "[1.2.3.4]\n", "[[1.2.3.4]]"} {
		notShown(t, with(func(c *api.Config) { c.RelayHost = s }), api.ErrConfigValue)
	}
	for _, s := range []string{"", "A", "a.b", "a@b", "a b", " a", "a\n", "\xc8", "é", "$a", strings.Repeat("x", 65), strings.Repeat("x", 1<<20)} {
		notShown(t, with(func(c *api.Config) { c.DoubleBounce = s }), api.ErrConfigValue)
	}
}

func TestP8_3ListsWrong(t *testing.T) {
	for _, field := range tableLists() {
		for _, l := range [][]string{
			{""}, {"a", ""}, {"A"}, {"a", "a"}, {"a", "b", "a"}, {"a b"}, {"a,b"}, {"a, b"}, {"a "}, {"a.b"}, {"é"}, {"\xc8"}, {strings.Repeat("z", 33)}, strings.Fields("a b c d e f g h i"), strings.Fields("a b c d e f g a"), strings.Fields(strings.Repeat("a ", 1<<16)),
		} {
			notShown(t, with(func(c *api.Config) { *field(c) = l }), api.ErrConfigValue)
		}
		written(t, with(func(c *api.Config) { *field(c) = []string{"a", strings.Repeat("z", 32)} }))
	}
	for _, field := range domainLists() {
		for _, n := range []int{101, 102, 200, 1 << 16} {
			notShown(t, with(func(c *api.Config) { *field(c) = counted(n) }), api.ErrConfigValue)
		}
		written(t, with(func(c *api.Config) { *field(c) = counted(100) }))
	}
	for _, n := range []api.Net{four(33), four(-1), four(8, 10, 1), six(129), six(-1), six(10, 0xff, 0xff), {Bits: 32, Addr: [16]byte{15: 1}}, four(0, 1)} {
		for _, l := range [][]api.Net{{n}, {four(8, 10), n}, {n, last(1)}, {n, n}, append(slices.Repeat([]api.Net{four(0)}, 99), n)} {
			notShown(t, with(func(c *api.Config) { c.Networks = l }), api.ErrConfigValue)
		}
	}
	for _, n := range []int{101, 200, 201, 1 << 16} {
		notShown(t, with(func(c *api.Config) { c.Networks = slices.Repeat([]api.Net{six(128)}, n) }), api.ErrConfigValue)
	}
	written(t, with(func(c *api.Config) { c.Networks = slices.Repeat([]api.Net{six(128)}, 100) }))
}

// linesOf are what Show writes of the defaults, by rising names.
func linesOf() []string {
	return []string{
		"canonical_maps =", "destination_concurrency = 20", "double_bounce_sender = double-bounce", "hopcount_limit = 50", "initial_concurrency = 5", "mailbox_size_limit = 51200000", "maximal_backoff = 4000", "message_size_limit = 102400", "minimal_backoff = 300", "mydestination = localhost.localdomain", "myhostname = localhost.localdomain", "mynetworks = 127.0.0.0/8", "queue_lifetime = 432000", "relay_domains =", "relayhost =", "smtpd_error_limit = 20", "smtpd_recipient_limit = 100", "transport_maps =", "virtual_alias_maps =",
	}
}

// shows wants the text of the defaults, turned so, to have that line in the place of the k-th one.
func shows(t *testing.T, k int, line string, turn func(c *api.Config)) {
	t.Helper()
	l := linesOf()
	l[k] = line
	if s := written(t, with(turn)); s != join(l...) {
		t.Errorf("%s, not %s", s, join(l...))
	}
}

func TestP8_3Show(t *testing.T) {
	if s := written(t, config.Default()); s != join(linesOf()...) {
		t.Error(s)
	}
	shows(t, 0, "canonical_maps = a, b_2, c-", func(c *api.Config) { c.Canonical = []string{"a", "b_2", "c-"} })
	shows(t, 1, "destination_concurrency = 1000", func(c *api.Config) { c.DestLimit = 1000 })
	shows(t, 2, "double_bounce_sender = -", func(c *api.Config) { c.DoubleBounce = "-" })
	shows(t, 3, "hopcount_limit = 1", func(c *api.Config) { c.HopLimit = 1 })
	shows(t, 4, "initial_concurrency = 20", func(c *api.Config) { c.InitialDest = 20 })
	shows(t, 5, "mailbox_size_limit = 0", func(c *api.Config) { c.MailboxLimit = 0 })
	shows(t, 6, "maximal_backoff = 1000000", func(c *api.Config) { c.MaxBackoff = 1000000 })
	shows(t, 7, "message_size_limit = 1048576", func(c *api.Config) { c.SizeLimit = 1048576 })
	shows(t, 8, "minimal_backoff = 4000", func(c *api.Config) { c.MinBackoff = 4000 })
	shows(t, 9, "mydestination = b, a, b", func(c *api.Config) { c.Destinations = []string{"b", "a", "b"} })
	shows(t, 9, "mydestination =", func(c *api.Config) { c.Destinations = nil })
	shows(t, 10, "myhostname = h", func(c *api.Config) { c.Hostname = "h" })
	shows(t, 11, "mynetworks = ::1, 10.0.0.0/8, 1.2.3.4, fe80::/10, ::/0", func(c *api.Config) {
		c.Networks = []api.Net{last(1), four(8, 10), four(32, 1, 2, 3, 4), six(10, 0xfe, 0x80), six(0)}
	})
	shows(t, 11, "mynetworks =", func(c *api.Config) { c.Networks = []api.Net{} })
	shows(t, 12, "queue_lifetime = 0", func(c *api.Config) { c.Lifetime = 0 })
	shows(t, 13, "relay_domains = a.b", func(c *api.Config) { c.Relays = []string{"a.b"} })
	shows(t, 14, "relayhost = [2001:db8::1]", func(c *api.Config) { c.RelayHost = "[2001:db8::1]" })
	shows(t, 14, "relayhost = a", func(c *api.Config) { c.RelayHost = "a" })
	shows(t, 15, "smtpd_error_limit = 1000", func(c *api.Config) { c.ErrorLimit = 1000 })
	shows(t, 16, "smtpd_recipient_limit = 200", func(c *api.Config) { c.RcptLimit = 200 })
	shows(t, 17, "transport_maps = z, a", func(c *api.Config) { c.Transport = []string{"z", "a"} })
	shows(t, 18, "virtual_alias_maps = 0", func(c *api.Config) { c.Virtual = []string{"0"} })
}

// TestP8_3ShowLength: a configuration may be, and yet be too long to be written.
func TestP8_3ShowLength(t *testing.T) {
	three := []string{longDomain(255), longDomain(255), longDomain(255)} // 769 bytes, two of each ", " among them
	for name, field := range domainLists() {
		for _, n := range []int{1, 228, 229} { // 229: all 1000 bytes
			c := with(func(c *api.Config) { *field(c) = append(slices.Clone(three), longDomain(n)) })
			if s := written(t, c); !strings.Contains(s, "\n"+name+" = "+strings.Join(*field(&c), ", ")+"\n") || !same(parsed(t, s), c) {
				t.Errorf("%s of %d bytes more", name, n)
			}
		}
		for _, n := range []int{230, 231, 255} {
			notShown(t, with(func(c *api.Config) { *field(c) = append(slices.Clone(three), longDomain(n)) }), api.ErrConfigLong)
		}
		notShown(t, with(func(c *api.Config) { *field(c) = slices.Repeat(three, 33) }), api.ErrConfigLong)
		notShown(t, with(func(c *api.Config) { *field(c), c.HopLimit = slices.Repeat(three, 33), 0 }), api.ErrConfigValue)
		notShown(t, with(func(c *api.Config) { *field(c), c.InitialDest = slices.Repeat(three, 33), 21 }), api.ErrConfigValue)
	}
	var l []api.Net
	for i := range 25 {
		n := six(128)
		for k := range n.Addr {
			n.Addr[k] = 0xff - byte(i)
		}
		l = append(l, n) // 39 bytes each
	}
	c := with(func(c *api.Config) { c.Networks = l[:24] }) // 982 bytes
	c.Networks = append(slices.Clone(c.Networks), api.Net{Six: true, Bits: 128, Addr: [16]byte{0: 0x12, 1: 0x34, 2: 0x56, 3: 0x78, 4: 0x01, 5: 0x23, 15: 1}})
	if s := written(t, c); !strings.Contains(s, ", 1234:5678:123::1\n") || !same(parsed(t, s), c) { // all 1000 bytes
		t.Error(s)
	}
	c.Networks[24].Addr[14] = 1 // 1002
	notShown(t, c, api.ErrConfigLong)
	notShown(t, with(func(c *api.Config) { c.Networks = l }), api.ErrConfigLong)
	// A text of as many bytes with one byte between two things is read all the same.
	many := fmt.Sprintf("%s,%s,%s,%s", longDomain(255), longDomain(255), longDomain(255), longDomain(230))
	c = parsed(t, "relay_domains = "+many)
	notShown(t, c, api.ErrConfigLong)
}

// TestP8_3StaysAsItIs: what is handed in is not turned (R3).
func TestP8_3StaysAsItIs(t *testing.T) {
	made := func() api.Config {
		return with(func(c *api.Config) {
			c.Destinations, c.Relays = []string{"z", "a", "z"}, []string{"y", "b"}
			c.Canonical, c.Virtual, c.Transport = []string{"z", "y"}, []string{"x", "a"}, []string{"b", "a"}
			c.Networks = []api.Net{last(9), four(8, 10), last(1)}
		})
	}
	c := made()
	if !config.Right(c) || !same(c, made()) {
		t.Errorf("Right turned what was handed in: %+v", c)
	}
	if written(t, c); !same(c, made()) {
		t.Errorf("Show turned what was handed in: %+v", c)
	}
	c.Relays[1], c.Networks[1] = "-", four(33)
	before := fmt.Sprintf("%+v", c)
	notShown(t, c, api.ErrConfigValue)
	if fmt.Sprintf("%+v", c) != before {
		t.Errorf("turned: %+v", c)
	}
}

// TestExamples is the chapter's table.
func TestExamples(t *testing.T) {
	c := parsed(t, "")
	if !slices.Equal(c.Destinations, []string{"localhost.localdomain"}) || c.InitialDest != 5 {
		t.Errorf("%+v", c)
	}
	c = parsed(t, join("myhostname = Mail.Example.org", "mydestination = $myhostname, example.org"))
	if !slices.Equal(c.Destinations, []string{"mail.example.org", "example.org"}) {
		t.Errorf("%+v", c)
	}
	refuses(t, "foo = 1", api.ErrConfigName, 0)
	refuses(t, "hopcount_limit = 0", api.ErrConfigValue, 0)
	refuses(t, "mydestination = $mydestination", api.ErrConfigLoop, 0)
	refuses(t, "myhostname", api.ErrConfigForm, 0)
	refuses(t, "initial_concurrency = 21", api.ErrConfigValue, 0)
}
