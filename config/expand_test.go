package config_test

import (
	"strings"
	"testing"

	"waybill/api"
	"waybill/config"
)

func TestP8_2Expand(t *testing.T) {
	reads(t, "myhostname = h.x\nrelay_domains = $myhostname", func(c *api.Config) {
		c.Hostname, c.Destinations, c.Relays = "h.x", []string{"h.x"}, []string{"h.x"}
	})
	reads(t, "relay_domains = $myhostname\nmyhostname = H.X\nmydestination = a $relay_domains,b", func(c *api.Config) {
		c.Hostname, c.Relays, c.Destinations = "h.x", []string{"h.x"}, []string{"a", "h.x", "b"}
	})
	reads(t, "relay_domains = a, b\nmydestination = $relay_domains $relay_domains,$relay_domains", func(c *api.Config) {
		c.Relays, c.Destinations = []string{"a", "b"}, []string{"a", "b", "a", "b", "a", "b"}
	})
	reads(t, "relay_domains = $myhostname\n $myhostname", func(c *api.Config) {
		c.Relays = []string{"localhost.localdomain", "localhost.localdomain"}
	})
}

// TestP8_2ExpandElse: of a parameter that no entry sets, what else stands is taken, expanded itself.
func TestP8_2ExpandElse(t *testing.T) {
	reads(t, "relay_domains = $myhostname", func(c *api.Config) { c.Relays = []string{"localhost.localdomain"} })
	reads(t, "relay_domains = $mydestination b", func(c *api.Config) { c.Relays = []string{"localhost.localdomain", "b"} })
	reads(t, "relay_domains = $mydestination\nmyhostname = h", func(c *api.Config) {
		c.Hostname, c.Destinations, c.Relays = "h", []string{"h"}, []string{"h"}
	})
	reads(t, "relay_domains = $mydestination\nmydestination =", func(c *api.Config) { c.Destinations = nil })
	reads(t, "relay_domains = $double_bounce_sender", func(c *api.Config) { c.Relays = []string{"double-bounce"} })
	reads(t, "relayhost = $transport_maps$relay_domains$canonical_maps$virtual_alias_maps", asTheyAre)
	reads(t, "double_bounce_sender = $relayhost$message_size_limit", func(c *api.Config) { c.DoubleBounce = "102400" })
	refuses(t, "relayhost = [$mynetworks]", api.ErrConfigValue, 0)
	for _, n := range numbers() {
		if n.name != "queue_lifetime" {
			reads(t, "queue_lifetime = $"+n.name, func(c *api.Config) { c.Lifetime = n.much })
		}
	}
	reads(t, "mailbox_size_limit = $queue_lifetime", func(c *api.Config) { c.MailboxLimit = 432000 })
}

// TestP8_2ExpandName: the name is the longest row of letters and _, and ends ahead of any other byte.
func TestP8_2ExpandName(t *testing.T) {
	reads(t, "hopcount_limit = 1$smtpd_error_limit", func(c *api.Config) { c.HopLimit = 120 })
	reads(t, "hopcount_limit = $initial_concurrency$smtpd_error_limit", func(c *api.Config) { c.HopLimit = 520 })
	reads(t, "smtpd_error_limit = 10\nhopcount_limit = $smtpd_error_limit"+"0", func(c *api.Config) { c.HopLimit, c.ErrorLimit = 100, 10 })
	refuses(t, "relay_domains = $myhostname"+"A_", api.ErrConfigValue, 0)
	for _, behind := range []string{".org", "-x", "9", "X", ".$myhostname", "A", "Z"} {
		want := strings.ToLower("localhost.localdomain" + strings.ReplaceAll(behind, "$myhostname", "localhost.localdomain"))
		reads(t, "relay_domains = mail.$myhostname"+behind+",$myhostname"+behind, func(c *api.Config) { c.Relays = []string{"mail." + want, want} })
	}
	for _, behind := range []string{" ", "\t", ",", ", ", "\n ", "\n#\n\t"} {
		reads(t, "relay_domains = $myhostname"+behind+"a", func(c *api.Config) { c.Relays = []string{"localhost.localdomain", "a"} })
	}
	for _, wrong := range []string{"$", "$$", "$ ", "a $", "$ myhostname", "$,", "$nobody", "$a", "$z", "$_", "$myhostnamex", "$myhostname_", "$_myhostname", "$xmyhostname", "$Myhostname", "$MYHOSTNAME", "${myhostname}", "$(myhostname)", "$1", "$-", "$.", "$=", "$#", "$my-hostname", "$my hostname", "$my\n hostname", "$myhostname$", "$myhostname $", "$$myhostname", "$relay", "$relay_", "$`", "${"} {
		refuses(t, "relay_domains = "+wrong, api.ErrConfigForm, 0)
		refuses(t, "hopcount_limit = 60\n\nrelay_domains = a\n "+wrong, api.ErrConfigForm, 21)
	}
}

// TestP8_2ExpandEdges: blanks that an expanded value has about it belong to it.
func TestP8_2ExpandEdges(t *testing.T) {
	refuses(t, "hopcount_limit = $relayhost 5", api.ErrConfigValue, 0)
	refuses(t, "hopcount_limit = 5 $relayhost", api.ErrConfigValue, 0)
	refuses(t, "relayhost = $relay_domains $relay_domains", api.ErrConfigValue, 0)
	refuses(t, "myhostname = $relayhost a\nmydestination = ", api.ErrConfigValue, 0)
	refuses(t, "double_bounce_sender = a $relayhost", api.ErrConfigValue, 0)
	reads(t, "hopcount_limit = $relayhost"+"5$relayhost", func(c *api.Config) { c.HopLimit = 5 })
	reads(t, "relay_domains = $relayhost $relayhost", asTheyAre)
	reads(t, "mynetworks = $relayhost ,$relayhost", func(c *api.Config) { c.Networks = nil })
	reads(t, "virtual_alias_maps = $relayhost\t$relayhost x", func(c *api.Config) { c.Virtual = []string{"x"} })
}

// TestP8_2ExpandUnread: a value that is put in need not be what its own parameter is to be; that is told of that one alone.
func TestP8_2ExpandUnread(t *testing.T) {
	refuses(t, "transport_maps = A\nmydestination = $transport_maps", api.ErrConfigValue, 0)
	refuses(t, "mydestination = $transport_maps\ntransport_maps = A", api.ErrConfigValue, 32)
	refuses(t, "canonical_maps = $hopcount_limit\nhopcount_limit = x", api.ErrConfigValue, 33)
	refuses(t, "canonical_maps = $hopcount_limit\nhopcount_limit = x.", api.ErrConfigValue, 0)
}

func TestP8_2Loop(t *testing.T) {
	for _, name := range config.Names() {
		at := 0
		if name == "myhostname" { // mydestination, which comes ahead of it, is it
			at = -2
		}
		refuses(t, "#\n"+name+" = $"+name, api.ErrConfigLoop, 2+at)
		refuses(t, "#\n"+name+" = a $"+name+" $nobody", api.ErrConfigLoop, 2+at)
		refuses(t, "#\n"+name+" = a $nobody $"+name, api.ErrConfigForm, 2+at)
	}
	refuses(t, "mydestination = $mydestination", api.ErrConfigLoop, 0)
	refuses(t, "relay_domains = $relayhost\nrelayhost = $relay_domains", api.ErrConfigLoop, 0)
	refuses(t, "relayhost = $relay_domains\nrelay_domains = $relayhost", api.ErrConfigLoop, 27)
	refuses(t, "relayhost = $relayhost\nrelay_domains = $relayhost", api.ErrConfigLoop, 23)
	refuses(t, "relay_domains = $relayhost\nrelayhost = $transport_maps\ntransport_maps = $relay_domains", api.ErrConfigLoop, 0)
	refuses(t, "myhostname = $relay_domains\nrelay_domains = $mydestination", api.ErrConfigLoop, 0)
	refuses(t, "canonical_maps = $transport_maps\ntransport_maps = $virtual_alias_maps\nvirtual_alias_maps = $transport_maps", api.ErrConfigLoop, 0)
	// All of them, one by the next.
	names := config.Names()
	var lines []string
	for i, name := range names {
		lines = append(lines, name+" = $"+names[(i+1)%len(names)])
	}
	refuses(t, join(lines...), api.ErrConfigLoop, 0)
	// To be met twice is no loop.
	reads(t, "mydestination = $relay_domains$relay_domains\nrelay_domains = $relayhost$relayhost\nrelayhost =", func(c *api.Config) { c.Destinations = nil })
}

// TestP8_2Chain: each is what the next one is, through all of them.
func TestP8_2Chain(t *testing.T) {
	names := config.Names()
	var lines []string
	for i, name := range names[:len(names)-1] {
		lines = append(lines, name+" = $"+names[i+1])
	}
	last := names[len(names)-1]
	refuses(t, join(lines...)+last+" = 7", api.ErrConfigValue, len(join(lines[:11]...))) // as mynetworks is a list of ranges
	refuses(t, join(lines...)+last+" = 0", api.ErrConfigValue, len(join(lines[:1]...)))
	refuses(t, join(lines...)+last+" = $nobody", api.ErrConfigForm, 0)
	lines[11] = "mynetworks ="
	refuses(t, join(lines...)+last+" = 7", api.ErrConfigValue, len(join(lines[:1]...)))
	lines[10] = "myhostname = 7"
	c := parsed(t, join(lines...)+last+" = 150")
	if c.Hostname != "7" || c.HopLimit != 7 || c.RcptLimit != 150 || c.Lifetime != 150 || len(c.Relays) != 1 || c.Relays[0] != "150" || c.RelayHost != "150" || c.DoubleBounce != "7" {
		t.Errorf("%+v", c)
	}
}

func TestP8_2ExpandedLength(t *testing.T) {
	// Blanks within make many bytes of two things.
	half := func(n int) string { return "a" + strings.Repeat(" ", n-2) + "b" }
	for _, n := range []int{498, 499, 500} {
		reads(t, "mydestination = $relay_domains$transport_maps\nrelay_domains = "+half(500)+"\ntransport_maps = "+half(n), func(c *api.Config) {
			c.Relays, c.Transport, c.Destinations = []string{"a", "b"}, []string{"a", "b"}, []string{"a", "ba", "b"}
		})
	}
	for _, n := range []int{501, 502, 1000} {
		refuses(t, "mydestination = $relay_domains$transport_maps\nrelay_domains = "+half(500)+"\ntransport_maps = "+half(n), api.ErrConfigLong, 0)
	}
	// What stands there may be short, or long: what counts is what it gets to be.
	thousand := "relay_domains = " + half(1000) + "\n"
	both := []string{"a", "b"}
	reads(t, thousand+"mydestination = $relay_domains", func(c *api.Config) { c.Relays, c.Destinations = both, both })
	reads(t, thousand+"mydestination = "+strings.Repeat("$relayhost", 90)+"$relay_domains"+strings.Repeat("$transport_maps", 5), func(c *api.Config) { c.Relays, c.Destinations = both, both })
	for _, value := range []string{"$relay_domains,", ",$relay_domains", "$relay_domains x", "$relay_domains$relay_domains", "$relay_domains$relayhost,", "$relay_domains$hopcount_limit"} {
		refuses(t, thousand+"mydestination = "+value, api.ErrConfigLong, 1017)
	}
	// A value that another one puts in is too long: that is told of the first by name that meets it.
	refuses(t, thousand+"canonical_maps = $mydestination\nmydestination = $relay_domains$relay_domains", api.ErrConfigLong, 1017)
	refuses(t, thousand+"transport_maps = $relay_domains\nvirtual_alias_maps = $transport_maps,", api.ErrConfigLong, 1017+32)
}

// TestP8_2ExpandFromTheLeft: of one value that is told which is met first.
func TestP8_2ExpandFromTheLeft(t *testing.T) {
	thousand := "transport_maps = a" + strings.Repeat(" ", 998) + "b\n"
	for _, x := range []struct {
		value string
		code  api.Errno
	}{
		{"$transport_maps$nobody", api.ErrConfigForm}, // 1000 bytes are none too many
		{"$transport_maps,$nobody", api.ErrConfigLong},
		{"$transport_maps$transport_maps$nobody", api.ErrConfigLong},
		{"$nobody$transport_maps,", api.ErrConfigForm},
		{"$transport_maps$relay_domains", api.ErrConfigLoop},
		{"$transport_maps$relay_domains$nobody,", api.ErrConfigLoop},
		{"$transport_maps,$relay_domains", api.ErrConfigLong},
		{"$relay_domains$transport_maps,", api.ErrConfigLoop},
		{"$nobody$relay_domains", api.ErrConfigForm},
		{"$relay_domains$nobody", api.ErrConfigLoop},
		{"$transport_maps,$", api.ErrConfigLong},
		{"$transport_maps$", api.ErrConfigForm},
		{"$,$transport_maps", api.ErrConfigForm},
		{"- $nobody", api.ErrConfigForm}, // ahead of what is wrong with the value
		{"-", api.ErrConfigValue},
		{"$virtual_alias_maps", api.ErrConfigForm}, // within that
		{"$virtual_alias_maps$transport_maps,", api.ErrConfigForm},
		{"$transport_maps$virtual_alias_maps", api.ErrConfigForm}, // its value is put together ahead of this one
		{"$transport_maps,$virtual_alias_maps", api.ErrConfigLong},
	} {
		refuses(t, "relay_domains = "+x.value+"\n"+thousand+"virtual_alias_maps = xx$nobody", x.code, 0)
	}
}

// TestP8_2ExpandMany: values that name one another many times over.
func TestP8_2ExpandMany(t *testing.T) {
	many := func(name string) string { return strings.Repeat("$"+name, 1000/(len(name)+1)) }
	names := config.Names()
	var lines []string
	for i, name := range names[:len(names)-1] {
		lines = append(lines, name+" = "+many(names[i+1]))
	}
	last := names[len(names)-1]
	refuses(t, join(lines...)+last+" =", api.ErrConfigValue, len(lines[0])+1)
	refuses(t, join(lines...)+last+" = $canonical_maps", api.ErrConfigLoop, 0)
	refuses(t, join(lines...)+last+" = $", api.ErrConfigForm, 0)
	refuses(t, join(lines...)+last+" = aa", api.ErrConfigLong, 0)
	reads(t, "relay_domains = "+many("relayhost")+"\nmydestination = "+many("relay_domains")+"\ncanonical_maps = "+many("mydestination"), func(c *api.Config) { c.Destinations = nil })
}
