package config_test

import (
	"regexp"
	"slices"
	"strconv"
	"strings"
	"testing"

	"waybill/api"
	"waybill/cidr"
	"waybill/config"
)

// said is an entry as its lines say it, with no look at what may be.
type said struct {
	at          int
	name, value string
	isGiven     bool
}

var (
	emptyLine = regexp.MustCompile(`^[ \t]*(#.*)?$`)
	moreLine  = regexp.MustCompile(`^[ \t]+(.*?)[ \t]*$`)
	entryLine = regexp.MustCompile(`^([^ \t=]*)[ \t]*(=?)[ \t]*(.*?)[ \t]*$`)

	numberText = regexp.MustCompile(`^(0|[1-9][0-9]{0,9})$`)
	domainText = regexp.MustCompile(`^[a-z0-9]([a-z0-9-]{0,61}[a-z0-9])?(\.[a-z0-9]([a-z0-9-]{0,61}[a-z0-9])?)*$`)
	tableText  = regexp.MustCompile(`^[a-z0-9_-]{1,32}$`)
	localText  = regexp.MustCompile(`^[a-z0-9_-]{1,64}$`)
	between    = regexp.MustCompile(`[ \t,]+`)
	dollarName = regexp.MustCompile(`\$[a-z_]*`)
)

// entriesOf are the entries of a text, and where the lines stand that continue none, as the chapter's words say it.
func entriesOf(text string) ([]said, []int) {
	var l []said
	var none []int
	at := 0
	for _, line := range strings.Split(text, "\n") {
		if emptyLine.MatchString(line) {
			// passed over
		} else if m := moreLine.FindStringSubmatch(line); m == nil {
			e := entryLine.FindStringSubmatch(line)
			l = append(l, said{at, e[1], e[3], e[2] == "="})
		} else if len(l) == 0 {
			none = append(none, at)
		} else if last := &l[len(l)-1]; last.value == "" {
			last.value = m[1]
		} else {
			last.value += " " + m[1]
		}
		at += len(line) + 1
	}
	return l, none
}

// textFault is what is wrong with a text: all of it is listed in the chapter's order, and the first by place is picked.
func textFault(text string) api.Fault {
	var faults []api.Fault
	add := func(is bool, code api.Errno, at int) {
		if is {
			faults = append(faults, api.Fault{Code: code, At: at})
		}
	}
	for at, c := range []byte(text) {
		add(c != 9 && c != 10 && (c < 32 || c > 126), api.ErrConfigForm, at)
	}
	l, none := entriesOf(text)
	for _, at := range none {
		add(true, api.ErrConfigForm, at)
	}
	for i, x := range l {
		_, is := elseOf(x.name)
		add(!x.isGiven, api.ErrConfigForm, x.at)
		add(!is, api.ErrConfigName, x.at)
		add(slices.ContainsFunc(l[:i], func(y said) bool { return y.name == x.name }), api.ErrConfigTwice, x.at)
		add(len(x.value) > 1000, api.ErrConfigLong, x.at)
	}
	slices.SortStableFunc(faults, func(a, b api.Fault) int { return a.At - b.At })
	if len(faults) == 0 {
		return api.Fault{}
	}
	return faults[0]
}

// elseOf is what a parameter is, if nothing stands there; false, if there is none.
func elseOf(name string) (string, bool) {
	switch name {
	case "double_bounce_sender":
		return "double-bounce", true
	case "mydestination":
		return "$myhostname", true
	case "myhostname":
		return "localhost.localdomain", true
	case "mynetworks":
		return "127.0.0.0/8", true
	case "canonical_maps", "relay_domains", "relayhost", "transport_maps", "virtual_alias_maps":
		return "", true
	}
	for _, p := range numbers() {
		if p.name == name {
			return strconv.Itoa(p.much), true
		}
	}
	return "", false
}

// expansion is the expanded value of a text within the parameters that are being expanded.
func expansion(l []said, within []string, value string) (string, api.Errno) {
	got := ""
	for value != "" {
		piece := value[:1]
		if loc := dollarName.FindStringIndex(value); loc != nil && loc[0] == 0 {
			piece = value[:loc[1]]
		}
		value = value[len(piece):]
		if piece[0] == '$' {
			name := piece[1:]
			raw, is := elseOf(name)
			if !is {
				return "", api.ErrConfigForm
			}
			if slices.Contains(within, name) {
				return "", api.ErrConfigLoop
			}
			if i := slices.IndexFunc(l, func(x said) bool { return x.name == name }); i >= 0 {
				raw = l[i].value
			}
			put, e := expansion(l, append(slices.Clone(within), name), raw)
			if e != api.OK {
				return "", e
			}
			piece = put
		}
		if got += piece; len(got) > 1000 {
			return "", api.ErrConfigLong
		}
	}
	return got, api.OK
}

// thingsOf are a list's things, each as said of it; false, if there are too many, or one is none.
func thingsOf(value string, most int, is *regexp.Regexp, size int) ([]string, bool) {
	var l []string
	for _, s := range between.Split(value, -1) {
		if s != "" {
			l = append(l, s)
		}
	}
	for _, s := range l {
		if !is.MatchString(s) || len(s) > size {
			return nil, false
		}
	}
	return l, len(l) <= most
}

func unlike(l []string) bool {
	return len(slices.Compact(slices.Sorted(slices.Values(l)))) == len(l)
}

func lowered(s string) string {
	return strings.Map(func(r rune) rune {
		if r >= 'A' && r <= 'Z' {
			return r + 32
		}
		return r
	}, s)
}

// setTo lays an expanded value into its field; false, if it is not what it is to be.
func setTo(c *api.Config, name, value string) bool {
	var is bool
	switch name {
	case "canonical_maps":
		c.Canonical, is = thingsOf(value, 8, tableText, 32)
		return is && unlike(c.Canonical)
	case "transport_maps":
		c.Transport, is = thingsOf(value, 8, tableText, 32)
		return is && unlike(c.Transport)
	case "virtual_alias_maps":
		c.Virtual, is = thingsOf(value, 8, tableText, 32)
		return is && unlike(c.Virtual)
	case "mydestination":
		c.Destinations, is = thingsOf(lowered(value), 100, domainText, 255)
		return is
	case "relay_domains":
		c.Relays, is = thingsOf(lowered(value), 100, domainText, 255)
		return is
	case "double_bounce_sender":
		c.DoubleBounce = value
		return localText.MatchString(value)
	case "myhostname":
		c.Hostname = lowered(value)
		return domainText.MatchString(c.Hostname) && len(value) <= 255
	case "mynetworks":
		l, e := cidr.List(value)
		c.Networks = l
		return e == api.OK && len(l) <= 100
	case "relayhost":
		return setRelay(c, value)
	}
	for _, p := range numbers() {
		if p.name == name {
			n, e := strconv.Atoi(value)
			*p.field(c) = n
			return e == nil && numberText.MatchString(value) && n >= p.least && n <= p.most
		}
	}
	return false
}

func setRelay(c *api.Config, value string) bool {
	if value == "" {
		return true
	}
	c.RelayHost = lowered(value)
	if domainText.MatchString(c.RelayHost) && len(value) <= 255 {
		return true
	}
	if len(value) < 2 || value[0] != '[' || value[len(value)-1] != ']' {
		return false
	}
	n, e := cidr.Addr(value[1 : len(value)-1])
	form, _ := cidr.Show(n)
	c.RelayHost = "[" + form + "]"
	return e == api.OK
}

// wanted is what Parse must say of a text.
func wanted(text string) (api.Config, api.Fault) {
	if len(text) > 65536 {
		return api.Config{}, api.Fault{Code: api.ErrConfigLong, At: 65536}
	}
	if f := textFault(text); f.Code != api.OK {
		return api.Config{}, f
	}
	l, _ := entriesOf(text)
	var c api.Config
	for _, line := range linesOf() {
		name, _, _ := strings.Cut(line, " ")
		at := 0
		if i := slices.IndexFunc(l, func(x said) bool { return x.name == name }); i >= 0 {
			at = l[i].at
		}
		value, e := expansion(l, nil, "$"+name)
		if e != api.OK {
			return api.Config{}, api.Fault{Code: e, At: at}
		}
		if !setTo(&c, name, value) {
			return api.Config{}, api.Fault{Code: api.ErrConfigValue, At: at}
		}
	}
	if c.InitialDest > c.DestLimit || c.MinBackoff > c.MaxBackoff {
		return api.Config{}, api.Fault{Code: api.ErrConfigValue}
	}
	return c, api.Fault{}
}

// sameText holds what is said of a text against the model; it tells which it is.
func sameText(t *testing.T, text string) (api.Config, api.Errno) {
	t.Helper()
	c, f := config.Parse(text)
	want, wantF := wanted(text)
	if f != wantF || !same(c, want) {
		t.Fatalf("Parse(%q): %+v %v, not %+v %v", text, c, f, want, wantF)
	}
	if config.Right(c) != (f.Code == api.OK) {
		t.Fatalf("Right of what Parse(%q) says: %v", text, config.Right(c))
	}
	return c, f.Code
}

// TestModelTexts plays texts by chance, of all kinds of faults.
func TestModelTexts(t *testing.T) {
	pieces := []string{"myhostname", "relay_domains", "mydestination", "hopcount_limit", "relayhost", "transport_maps", "foo", "=", "=", " = ", " = ", "\n", "\n", "\n", "\n ", "\n\t", " ", "\t", ",", "$", "$myhostname", "$relay_domains", "$hopcount_limit", "#", "\n#", "a", "b.c", "7", "-", "A", "_", "[1.2.3.4]", "\xc8", "\r", strings.Repeat("x", 998)}
	d := dice(1)
	count := map[api.Errno]int{}
	for range 60000 {
		var b strings.Builder
		for range d.roll(14) {
			b.WriteString(d.one(pieces))
		}
		_, code := sameText(t, b.String())
		count[code]++
	}
	for _, code := range []api.Errno{api.OK, api.ErrConfigForm, api.ErrConfigName} {
		if count[code] < 1000 {
			t.Errorf("so few texts of %v: %v", code, count)
		}
	}
}

// valueOf is a value by chance, mostly right for that parameter.
func valueOf(d *dice, name string) string {
	if d.roll(6) == 0 {
		parts := []string{"$", "$" + d.one(config.Names()), "$" + d.one(config.Names()), "-", "a", "7", " ", ",", ".", "", "[", "]", "=", "#", "A", "0", "10.0.0.0/8", "a" + strings.Repeat(" ", 400) + "b", strings.Repeat("x,", 51), longDomain(255) + " " + longDomain(255)}
		return d.one(parts) + d.one(parts) + d.one(parts)
	}
	separators := []string{" ", ",", ", ", "\t", " ,, "}
	several := func(l ...string) string {
		s := ""
		for range d.roll(5) {
			s += d.one(l) + d.one(separators)
		}
		return s
	}
	switch name {
	case "canonical_maps", "transport_maps", "virtual_alias_maps":
		return several("a", "b", "c_1", "d-", "e", "f", "$relayhost", "g"+strconv.Itoa(d.roll(100)))
	case "mydestination", "relay_domains":
		return several("A.b", "mail.example.org", "$myhostname", "x-y", "0", "$relayhost", "Z"+strconv.Itoa(d.roll(100)), longDomain(100+d.roll(156)))
	case "mynetworks":
		return several("10.0.0.0/8", "::1", "FE80::/10", "1.2.3."+strconv.Itoa(d.roll(256)), "::/0", "$relayhost")
	case "relayhost":
		return d.one([]string{"", "A.b", "[1.2.3.4]", "[2001:DB8::0:1]", "$myhostname", "$transport_maps"})
	case "myhostname":
		return d.one([]string{"mail.Example.org", "h", longDomain(255), "$double_bounce_sender", "m$hopcount_limit"})
	case "double_bounce_sender":
		return d.one([]string{"x", "a_b-9", strings.Repeat("x", 64), "$hopcount_limit"})
	}
	for _, p := range numbers() {
		if p.name == name {
			return strconv.Itoa(p.least + d.roll([]int{p.much, p.most}[d.roll(2)]-p.least+1))
		}
	}
	return ""
}

// TestModelValues plays texts whose entries are mostly right.
func TestModelValues(t *testing.T) {
	d := dice(2)
	count := map[api.Errno]int{}
	for range 15000 {
		var b strings.Builder
		for range d.roll(7) {
			name := d.one(config.Names())
			b.WriteString(name + d.one([]string{"=", " = ", " =\t", "\t= ", " =\n "}) + valueOf(&d, name) + d.one([]string{"\n", "\n", " \n", "\n\n", "\n# x\n"}))
		}
		c, code := sameText(t, b.String())
		count[code]++
		if code == api.OK {
			sameShown(t, c)
		}
	}
	for _, code := range []api.Errno{api.OK, api.ErrConfigForm, api.ErrConfigValue, api.ErrConfigLoop, api.ErrConfigTwice, api.ErrConfigLong} {
		if count[code] < 40 {
			t.Errorf("so few texts of %v: %v", code, count)
		}
	}
}

// sameShown wants what Show writes to be read as that configuration (P8.4), and to be written as it was.
func sameShown(t *testing.T, c api.Config) {
	t.Helper()
	s, e := config.Show(c)
	if e == api.ErrConfigLong && isLong(c) {
		return
	}
	if e != api.OK || isLong(c) {
		t.Fatalf("Show(%+v): %v", c, e)
	}
	if got, f := config.Parse(s); f != (api.Fault{}) || !same(got, c) {
		t.Fatalf("Parse of Show of %+v: %+v %v", c, got, f)
	}
	got := parsed(t, s)
	if again := written(t, got); again != s {
		t.Fatalf("Show of what Parse took: %s, not %s", again, s)
	}
}

func isLong(c api.Config) bool {
	var shown []string
	for _, n := range c.Networks {
		s, _ := cidr.Show(n)
		shown = append(shown, s)
	}
	for _, l := range [][]string{c.Destinations, c.Relays, shown} {
		if len(strings.Join(l, ", ")) > 1000 {
			return true
		}
	}
	return false
}

// chanced is a configuration by chance that may be.
func chanced(d *dice) api.Config {
	c := defaults()
	for _, p := range numbers() {
		*p.field(&c) = p.least + d.roll(p.most-p.least+1)
	}
	c.InitialDest, c.DestLimit = min(c.InitialDest, c.DestLimit), max(c.InitialDest, c.DestLimit)
	c.MinBackoff, c.MaxBackoff = min(c.MinBackoff, c.MaxBackoff), max(c.MinBackoff, c.MaxBackoff)
	c.Hostname = longDomain(1 + d.roll(255))
	c.RelayHost = d.one([]string{"", "a", "[::]", "[1.2.3.4]", longDomain(1 + d.roll(255))})
	c.DoubleBounce = strings.Repeat(d.one([]string{"a", "-", "_", "0"}), 1+d.roll(64))
	for _, field := range domainLists() {
		*field(&c) = nil
		for range d.roll(8) {
			*field(&c) = append(*field(&c), longDomain(1+d.roll(255)))
		}
	}
	for _, field := range tableLists() {
		*field(&c) = nil
		for i := range d.roll(9) {
			*field(&c) = append(*field(&c), strconv.Itoa(i)+strings.Repeat("x", d.roll(32)))
		}
	}
	c.Networks = nil
	for range d.roll(30) {
		n := api.Net{Six: d.roll(2) == 0, Bits: 8 * d.roll(5)}
		for i := range n.Bits / 8 {
			n.Addr[i] = byte(d.roll(256))
		}
		c.Networks = append(c.Networks, n)
	}
	return c
}

// TestP8_4ByChance: what Show writes is read as it was, also in another order, with comments and empty lines between, and lines that continue.
func TestP8_4ByChance(t *testing.T) {
	d := dice(3)
	shown := 0
	for range 3000 {
		c := chanced(&d)
		if !config.Right(c) {
			t.Fatalf("%+v may be", c)
		}
		sameShown(t, c)
		s, e := config.Show(c)
		if e != api.OK {
			continue
		}
		shown++
		lines := strings.SplitAfter(strings.TrimSuffix(s, "\n"), "\n")
		lines[len(lines)-1] += "\n"
		for i := range lines {
			k := i + d.roll(len(lines)-i)
			lines[i], lines[k] = lines[k], lines[i]
			lines[i] = strings.ReplaceAll(lines[i], ", ", d.one([]string{", ", ",", " ", ",\n ", "\n\t", ",\n# x\n ", " \n\n\t"})) // none is longer
			lines[i] = strings.Replace(lines[i], " = ", d.one([]string{"=", "\t=", " =\n ", "= \t"}), 1)
			lines[i] += d.one([]string{"", "\n", "# hopcount_limit = 1\n", "  # x\n", " \t\n"})
		}
		if got := parsed(t, strings.Join(lines, "")); !same(got, c) {
			t.Fatalf("Parse(%q): %+v, not %+v", strings.Join(lines, ""), got, c)
		}
	}
	if shown < 1000 {
		t.Error("so few configurations are written:", shown)
	}
}

// TestP8_4Order: all orders of a few entries, of which some name others.
func TestP8_4Order(t *testing.T) {
	lines := []string{"mydestination = $myhostname, $relay_domains\n", "myhostname = h.$double_bounce_sender\n", "relay_domains = a\n  b\n", "double_bounce_sender=x\n\n", "# x\nhopcount_limit\t=\t7\n"}
	var each func(ahead string, left []string)
	each = func(ahead string, left []string) {
		if len(left) == 0 {
			reads(t, ahead, func(c *api.Config) {
				c.Hostname, c.DoubleBounce, c.Relays, c.Destinations, c.HopLimit = "h.x", "x", []string{"a", "b"}, []string{"h.x", "a", "b"}, 7
			})
		}
		for i, line := range left {
			each(ahead+line, slices.Delete(slices.Clone(left), i, i+1))
		}
	}
	each("", lines)
}

func FuzzParse(f *testing.F) {
	for _, text := range []string{"", " a = b", "myhostname", "# x\nmyhostname = Mail.Example.org\nmydestination = $myhostname,\n  localhost\nrelayhost=[2001:DB8::0:1]\n", "foo = 1", "hopcount_limit = 01", "relay_domains = $mydestination\nmydestination = $relay_domains", "mynetworks = 10.0.0.0/8 ::1\nqueue_lifetime\t=\t0", "initial_concurrency = 21", "relay_domains = a,,b\xc8"} {
		f.Add(text)
	}
	f.Fuzz(func(t *testing.T, text string) {
		if strings.Count(text, "$") > 12 { // the model expands each one anew
			return
		}
		if c, code := sameText(t, text); code == api.OK {
			sameShown(t, c)
		}
	})
}
