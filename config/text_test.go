package config_test

import (
	"slices"
	"strings"
	"testing"

	"waybill/api"
	"waybill/config"
)

func TestP8_2NothingSaid(t *testing.T) {
	for _, text := range []string{"", "\n", "\n\n\n", " ", "\t", " \t \n\t\n ", "#", "#\n", "# hopcount_limit = 7", "#hopcount_limit = 7\n# foo", " # foo\n\t#foo\n \t #", "##", " \n#\n \n", "# \t~"} {
		reads(t, text, asTheyAre)
	}
}

func TestP8_2TextLength(t *testing.T) {
	for _, n := range []int{1, 65535, 65536} {
		reads(t, strings.Repeat("\n", n), asTheyAre)
		reads(t, strings.Repeat("\t", n), asTheyAre)
		reads(t, strings.Repeat("#", n), asTheyAre)
		refuses(t, strings.Repeat("x", n), api.ErrConfigForm, 0)
		refuses(t, strings.Repeat(" ", n-1)+"x", api.ErrConfigForm, 0)
		refuses(t, strings.Repeat("\n", n-1)+"x", api.ErrConfigForm, n-1)
		refuses(t, strings.Repeat("\n", n-1)+"\xc8", api.ErrConfigForm, n-1)
	}
	const line = "hopcount_limit = 7"
	seven := func(c *api.Config) { c.HopLimit = 7 }
	reads(t, strings.Repeat("\n", 65536-len(line))+line, seven)
	reads(t, line+strings.Repeat("\n", 65536-len(line)), seven)
	reads(t, line+strings.Repeat(" ", 65536-len(line)), seven)
	reads(t, "hopcount_limit"+strings.Repeat("\t", 65536-len("hopcount_limit=7"))+"=7", seven)
	reads(t, "hopcount_limit="+strings.Repeat(" ", 65536-len("hopcount_limit=7"))+"7", seven)

	// Too long comes ahead of all else.
	for _, text := range []string{
		strings.Repeat("\n", 65537), strings.Repeat("#", 65537), strings.Repeat("\xc8", 65537), strings.Repeat("x", 65537), " x" + strings.Repeat(" ", 65535), line + strings.Repeat("\n", 65537-len(line)), "foo" + strings.Repeat("\n", 65534), strings.Repeat("foo = 1\n", 100000), strings.Repeat(line+"\n", 100000), "hopcount_limit = 0" + strings.Repeat("\n", 65536),
	} {
		refuses(t, text, api.ErrConfigLong, 65536)
	}
}

// TestP8_2Bytes goes through all bytes, at each place that a line has.
func TestP8_2Bytes(t *testing.T) {
	places := []struct{ ahead, behind string }{
		{"", ""}, {"", "\n"}, {"\n", "\n"}, {" ", "\n"}, {"", "myhostname = a\n"}, {"# x\n", "myhostname = a\n"},
		{"my", "hostname = a\n"}, {"myhostname", "= a\n"}, {"myhostname", " = a\n"}, {"myhostname ", "= a\n"}, {"myhostname =", "a\n"}, {"myhostname = ", "a\n"}, {"myhostname = a", "b\n"}, {"myhostname = a", "\n"}, {"myhostname = a", ""}, {"myhostname =", ""}, {"relay_domains =", "\n"},
		{"relay_domains = a\n", ""}, {"relay_domains = a\n", " b\n"}, {"relay_domains = a\n", "#\n"}, {"relay_domains = a\n\n", ""}, {"relay_domains = a\n ", "b\n"}, {"relay_domains = a\n b", "c\n"}, {"relay_domains = a\n b", "\n"}, {"relay_domains = a\n b", ""}, {"relay_domains =\n ", ""},
		{"#", "\n"}, {"#", ""}, {"# a", "b\nmyhostname = a"}, {"# a", ""}, {" #", "\n"}, {"relay_domains = a\n#", "\n b"}, {"relay_domains = a\n #", "\n b"},
		{"$", ""}, {"relay_domains = $", ""}, {"relay_domains = $myhostname", ""}, {"relay_domains = $", "myhostname"}, {"relay_domains = $my", "hostname"}, {"relay_domains = $myhostname", "$myhostname"},
	}
	for _, place := range places {
		for c := range 256 {
			text := place.ahead + string([]byte{byte(c)}) + place.behind
			sameText(t, text)
			_, f := config.Parse(text)
			if may := c == 9 || c == 10 || c >= 32 && c <= 126; !may && (f.At > len(place.ahead) || f.Code != api.ErrConfigForm && f.Code != api.ErrConfigName) {
				t.Errorf("Parse(%q): %v", text, f)
			}
		}
	}
}

func TestP8_2BadBytes(t *testing.T) {
	for _, c := range []string{"\x00", "\x08", "\x0b", "\x0c", "\r", "\x1f", "\x7f", "\x80", "\xa0", "\xc8", "\xff", "é"} {
		refuses(t, c, api.ErrConfigForm, 0)
		refuses(t, c+" = v", api.ErrConfigForm, 0) // of one place, ahead of its name
		refuses(t, "my"+c+"hostname = v", api.ErrConfigName, 0)
		refuses(t, "myhostname"+c+"= v", api.ErrConfigName, 0)
		refuses(t, "myhostname "+c+"= v", api.ErrConfigForm, 0) // no = stands behind the blanks
		refuses(t, "myhostname ="+c+"v", api.ErrConfigForm, 12)
		refuses(t, "myhostname = v"+c, api.ErrConfigForm, 14)
		refuses(t, "myhostname = v"+c+"\n", api.ErrConfigForm, 14)
		refuses(t, "myhostname = v\n "+c, api.ErrConfigForm, 16)
		refuses(t, "myhostname = v\n"+c, api.ErrConfigForm, 15)
		refuses(t, "myhostname = v\n"+c+"#", api.ErrConfigForm, 15)
		refuses(t, "#"+c, api.ErrConfigForm, 1)
		refuses(t, "# x"+c+"x\nmyhostname = v", api.ErrConfigForm, 3)
		refuses(t, "myhostname = v\n # x"+c+"\n", api.ErrConfigForm, 19)
		refuses(t, "myhostname = v"+c+c, api.ErrConfigForm, 14)
		refuses(t, "  "+c, api.ErrConfigForm, 0)
	}
	for _, c := range []string{"!", "~", " ", "\t", "\n", "\n\n"} {
		reads(t, "#"+c, asTheyAre)
	}
}

func TestP8_2ContinuesNone(t *testing.T) {
	for text, at := range map[string]int{
		" a = b": 0, "\tmyhostname = a": 0, "  a": 0, " =": 0, "\n a": 1, " \n\t\n  a": 4, "# x\n b": 4, " # x\n  b\n c\n": 5, "\n\n# x\n\n\ta\nmyhostname = b": 7, " a # x": 0, "\n  a\xc8": 1, "#\xc8\n  a": 1, "##\n  a\xc8\nfoo\n": 3, " a\n b": 0, " a\nfoo = 1": 0, " a\nfoo": 0,
	} {
		refuses(t, text, api.ErrConfigForm, at)
	}
}

func TestP8_2Continued(t *testing.T) {
	for _, text := range []string{
		"relay_domains = a\n b", "relay_domains = a\n b\n", "relay_domains = a\n\tb", "relay_domains = a \t\n \t b \t\n", "relay_domains=a\n b", "relay_domains =\n a\n b", "relay_domains=\n a b", "relay_domains= \t \n\ta\n b",
		"relay_domains = a\n# x\n b", "relay_domains = a\n # x\n b\n\t#y\n", "relay_domains = a\n\n b\n \t\n", "relay_domains =\n\n \n# x\n  # y\n a\n# z\n b", "relay_domains = a,\n b", "relay_domains = a\n , b", "\n# x\nrelay_domains = a\n  ,\n  b",
	} {
		reads(t, text, func(c *api.Config) { c.Relays = []string{"a", "b"} })
	}
	// One blank stands between two lines, none about the whole.
	refuses(t, "myhostname = a\n b", api.ErrConfigValue, 0)
	refuses(t, "hopcount_limit = 1\n 2", api.ErrConfigValue, 0)
	reads(t, "hopcount_limit =\n 12\n \n", func(c *api.Config) { c.HopLimit = 12 })
	reads(t, "hopcount_limit = 12\n\t\n#\n", func(c *api.Config) { c.HopLimit = 12 })
	refuses(t, "hopcount_limit = 12\n x # y", api.ErrConfigValue, 0)
	refuses(t, "hopcount_limit = 12 # y", api.ErrConfigValue, 0)
	refuses(t, "hopcount_limit = 12\n relayhost = a", api.ErrConfigValue, 0)
	refuses(t, "hopcount_limit = 12\n = 13", api.ErrConfigValue, 0)
}

func TestP8_2Sign(t *testing.T) {
	for _, text := range []string{"hopcount_limit=7", "hopcount_limit =7", "hopcount_limit= 7", "hopcount_limit = 7", "hopcount_limit\t=\t7", "hopcount_limit \t = \t 7 \t ", "hopcount_limit=\n 7", "hopcount_limit =7\n"} {
		reads(t, text, func(c *api.Config) { c.HopLimit = 7 })
	}
	for _, text := range []string{"relay_domains", "relay_domains ", "relay_domains \t \n", "relay_domains\n", "relay_domains a", "relay_domains a = b", "relay_domains a=", "relay_domains : =", "relay_domains # =", "foo", "foo bar = 1", "a", "-", "$", "$relay_domains", "relay_domains\n# =\n"} {
		refuses(t, text, api.ErrConfigForm, 0)
		refuses(t, "# x\n\n"+text, api.ErrConfigForm, 5)
		refuses(t, "hopcount_limit = 7\n"+text, api.ErrConfigForm, 19)
	}
	// It stands on the line that the name begins: the line's end is no blank.
	for _, text := range []string{"relay_domains\n = a", "relay_domains\n =", "relay_domains \n\t= a\n", "relay_domains\n\n = a", "relay_domains\n# x\n = a", "foo\n = 1"} {
		refuses(t, text, api.ErrConfigForm, 0)
	}
	// The first one ends the name, others belong to the value.
	for _, text := range []string{"relay_domains = a = b", "relay_domains == a", "relay_domains = = a", "relay_domains=a=b", "relay_domains = =", "relay_domains = a\n = b"} {
		refuses(t, text, api.ErrConfigValue, 0)
	}
}

func TestP8_2NoName(t *testing.T) {
	for _, name := range []string{
		"foo", "Myhostname", "MYHOSTNAME", "myhostnam", "myhostname_", "xmyhostname", "my_hostname", "my-hostname", "$myhostname", "myhostname:", "myhostname,", "\"myhostname\"", "hopcount", "relay", "relay_domain", "relay_host", "virtual_maps", "x", strings.Repeat("x", 2000), "mydestination,myhostname", "0", "~",
	} {
		for _, behind := range []string{"=", " =", "= a", "\t = 1", "==", " = " + strings.Repeat("x", 1001)} {
			refuses(t, name+behind, api.ErrConfigName, 0)
			refuses(t, "\nmyhostname = a\n"+name+behind, api.ErrConfigName, 16)
		}
	}
	for _, text := range []string{"=", "= a", "==", "=a\n b", "= \n", "=myhostname = a"} {
		refuses(t, text, api.ErrConfigName, 0)
		refuses(t, "#\n"+text, api.ErrConfigName, 2)
	}
}

func TestP8_2Twice(t *testing.T) {
	for _, name := range config.Names() {
		refuses(t, name+"=\n"+name+"=\n", api.ErrConfigTwice, len(name)+2)
		refuses(t, name+" = a\n# x\n\n"+name+"\t=\n\ta", api.ErrConfigTwice, len(name)+10)
	}
	refuses(t, "hopcount_limit = 1\nhopcount_limit = 1", api.ErrConfigTwice, 19)
	refuses(t, "hopcount_limit = 1\nhopcount_limit = 2\nhopcount_limit = 3", api.ErrConfigTwice, 19)
	refuses(t, "hopcount_limit = 1\nrelayhost =\nrelayhost =\nhopcount_limit = 1", api.ErrConfigTwice, 31)
	reads(t, "hopcount_limit = 1\n#hopcount_limit = 2\nsmtpd_error_limit = 1\n # hopcount_limit = 3", func(c *api.Config) { c.HopLimit, c.ErrorLimit = 1, 1 })
}

func TestP8_2ValueLength(t *testing.T) {
	for _, n := range []int{999, 1000} { // many blanks within, so that the things are few
		value := "a" + strings.Repeat(" ", n-2) + "b"
		for _, text := range []string{"relay_domains=" + value, "relay_domains = \t" + value + " \t\n", "relay_domains =\n " + value + " \n\n"} {
			reads(t, text, func(c *api.Config) { c.Relays = []string{"a", "b"} })
		}
		refuses(t, "relay_domains = "+strings.Repeat("a", n), api.ErrConfigValue, 0)
	}
	for _, n := range []int{1001, 1002, 5000, 65000} {
		value := "a" + strings.Repeat(" ", n-2) + "b"
		for _, text := range []string{"relay_domains=" + value, "relay_domains = \t" + value + " \t\n", "relay_domains =\n " + value + " \n\n", "relay_domains = " + strings.Repeat("x", n), "relay_domains =" + strings.Repeat("$", n)} {
			refuses(t, text, api.ErrConfigLong, 0)
			refuses(t, "#\nhopcount_limit = 0\n"+text, api.ErrConfigLong, 21)
		}
	}
	reads(t, "relay_domains = "+strings.Repeat(" ", 2000)+"a"+strings.Repeat(" ", 2000), func(c *api.Config) { c.Relays = []string{"a"} })
}

func TestP8_2ValueGrows(t *testing.T) {
	for _, pieces := range [][]int{{998, 1}, {1, 998}, {500, 499}, {1, 1, 996}, {333, 333, 332}, {900, 10, 10, 10, 66}} {
		var said, want []string
		for _, n := range pieces {
			piece := "a"
			if n > 1 {
				piece = "b" + strings.Repeat(" ", n-2) + "c"
			}
			said = append(said, piece)
			want = append(want, strings.Fields(piece)...)
		}
		for _, end := range []string{"\n ", " \t\n\t ", "\n#\n ", "\n\n \n # x\n\t"} {
			text := "relay_domains = " + strings.Join(said, end)
			reads(t, text, func(c *api.Config) { c.Relays = want })
			reads(t, "relay_domains ="+end+strings.Join(said, end)+" \n", func(c *api.Config) { c.Relays = want })
			refuses(t, "\n"+text+"\n\n x\n", api.ErrConfigLong, 1)
			refuses(t, text+"v", api.ErrConfigLong, 0)
		}
	}
	refuses(t, "relay_domains = x"+strings.Repeat("\n x", 500), api.ErrConfigLong, 0)
	refuses(t, "relay_domains = x"+strings.Repeat("\n x", 499), api.ErrConfigValue, 0) // 999 bytes, 500 things
}

// TestP8_2FirstByPlace has several faults in one text.
func TestP8_2FirstByPlace(t *testing.T) {
	long := strings.Repeat("x", 1001)
	for _, x := range []struct {
		text string
		code api.Errno
		at   int
	}{
		{"foo\xc8", api.ErrConfigForm, 0}, // no =, ahead of the byte
		{"foo\xc8 = 1", api.ErrConfigName, 0},
		{"foo = \xc8", api.ErrConfigName, 0},
		{"#\xc8\nfoo = 1", api.ErrConfigForm, 1},
		{"foo = 1\n#\xc8", api.ErrConfigName, 0},
		{"myhostname\nfoo = 1", api.ErrConfigForm, 0},
		{"foo = 1\nmyhostname", api.ErrConfigName, 0},
		{"myhostname = \xc8" + long, api.ErrConfigLong, 0},
		{"myhostname = \xc8\n " + long, api.ErrConfigLong, 0},
		{"myhostname = \xc8\n" + " " + long[:998], api.ErrConfigForm, 13}, // 1000 bytes
		{"myhostname = \xc8\n" + " " + long[:999], api.ErrConfigLong, 0},  // 1001
		{"myhostname = \xc8\nfoo = 1", api.ErrConfigForm, 13},
		{"myhostname = a\nmyhostname", api.ErrConfigForm, 15}, // of one place Form comes ahead of Twice
		{"myhostname = a\nmyhostname = " + long, api.ErrConfigTwice, 15},
		{"foo = " + long, api.ErrConfigName, 0},
		{"foo = 1\nfoo = 1", api.ErrConfigName, 0},
		{"foo " + long, api.ErrConfigForm, 0},
		{"myhostname = " + long + "\nmyhostname = a", api.ErrConfigLong, 0},
		{"myhostname = a\nmyhostname = b\nfoo = 1", api.ErrConfigTwice, 15},
		{"myhostname = a\nfoo = 1\nmyhostname = b", api.ErrConfigName, 15},
		{" a\nfoo", api.ErrConfigForm, 0},
		{"foo = 1\n a", api.ErrConfigName, 0},
		// All of them come ahead of what is wrong with values.
		{"hopcount_limit = 0\nfoo = 1", api.ErrConfigName, 19},
		{"hopcount_limit = 0\nfoo", api.ErrConfigForm, 19},
		{"hopcount_limit = $foo\n#\xc8", api.ErrConfigForm, 23},
		{"hopcount_limit = $hopcount_limit\nhopcount_limit = 1", api.ErrConfigTwice, 33},
		{"hopcount_limit = 0\nrelayhost = " + long, api.ErrConfigLong, 19},
		{"initial_concurrency = 21\n=", api.ErrConfigName, 25},
	} {
		refuses(t, x.text, x.code, x.at)
		if _, f := wanted(x.text); f != (api.Fault{Code: x.code, At: x.at}) {
			t.Errorf("the model of %s: %v", short(x.text), f)
		}
	}
}

// TestP8_2FirstByName: values are gone through by rising names, wherever their entries stand.
func TestP8_2FirstByName(t *testing.T) {
	names := config.Names()
	wrong := map[string]string{"mynetworks": "x", "mydestination": "-", "relay_domains": "-", "relayhost": "-", "myhostname": "-"}
	var lines []string
	for _, name := range names {
		value := wrong[name]
		if value == "" {
			value = "!"
		}
		lines = append(lines, name+" = "+value)
	}
	for from := range lines {
		l := slices.Clone(lines[from:])
		refuses(t, join(l...), api.ErrConfigValue, 0)
		slices.Reverse(l)
		at := len(join(l...)) - len(lines[from]) - 1
		if names[from] == "myhostname" { // mydestination, which has no entry, comes ahead of it
			at = 0
		}
		refuses(t, join(l...), api.ErrConfigValue, at)
	}
	refuses(t, "relayhost = -\nhopcount_limit = $foo", api.ErrConfigForm, 14)
	refuses(t, "relayhost = $foo\nhopcount_limit = 0", api.ErrConfigValue, 17)
	refuses(t, "hopcount_limit = $relayhost\nrelayhost = $relayhost", api.ErrConfigLoop, 0)
	refuses(t, "relayhost = $relayhost\nhopcount_limit = $relayhost", api.ErrConfigLoop, 23)
	refuses(t, "relayhost = $foo\nrelay_domains = -", api.ErrConfigValue, 17)
	refuses(t, "transport_maps = $foo\nsmtpd_error_limit = 0\ninitial_concurrency = 1001", api.ErrConfigValue, 44)
}

// TestP8_2NoEntry: where no entry stands for the parameter that is wrong, that is told at 0.
func TestP8_2NoEntry(t *testing.T) {
	refuses(t, "# x\nmyhostname = a..b", api.ErrConfigValue, 0) // mydestination is $myhostname, and comes ahead of it
	refuses(t, "# x\nmyhostname = $foo", api.ErrConfigForm, 0)
	refuses(t, "# x\nmyhostname = $myhostname", api.ErrConfigLoop, 0)
	refuses(t, "# x\nmyhostname = $mydestination", api.ErrConfigLoop, 0)
	refuses(t, "# x\nmyhostname = a..b\nmydestination =", api.ErrConfigValue, 4)
	refuses(t, "# x\nmyhostname = $foo\nmydestination =", api.ErrConfigForm, 4)
	refuses(t, "# x\nmyhostname = a, b\n", api.ErrConfigValue, 4) // a list, but no domain
}
