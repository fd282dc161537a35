package canon_test

import (
	"slices"
	"strings"
	"testing"

	"waybill/api"
	"waybill/canon"
	"waybill/path"
)

var (
	localSorts  = []string{"a", "b", "A", "c.d", "a b", `"`, `a\`, "postmaster", "Postmaster", "a@x", "#", strings.Repeat("l", 64), "(x)"}
	domainSorts = []string{"x", "y", "z", "x.y", "mx.example", "old.example", "10.0.0.1", domainOf(100), domainOf(189), domainOf(190)}
	wrongLocals = []string{"", "a\x00", "\x80", "a\t", strings.Repeat("l", 65), "a\u00e9", xs(63) + " "}
	wrongSites  = []string{"", "X", "-", "x.", "[10.0.0.1]", domainOf(250), domainOf(255), domainOf(256), "\u017f"}
	wrongValues = []string{"postmaster", "<>", "@", "@[10.0.0.1]", "b", "b@", "<b@y>", "@@x", "b@-", "@" + domainOf(256), "b@" + domainOf(255), "b@y c@z", "\x80"}
)

// form is a mailbox as a text that stands for it, in some letters.
func (d *dice) form(p api.Path) string {
	s, e := path.Show(p)
	if e != api.OK {
		return p.Local + "@" + p.Domain
	}
	if i := strings.LastIndexByte(s, '@'); i >= 0 && !p.Literal && d.roll(4) == 0 {
		s = s[:i] + strings.ToUpper(s[i:])
	}
	return s
}

// mailbox is one by chance; one of so many may not be, and of 0 each may.
func (d *dice) mailbox(wrong int) api.Path {
	p := at(d.one(localSorts), d.one(domainSorts))
	switch {
	case wrong > 0 && d.roll(wrong) == 0:
		p.Local = d.one(wrongLocals)
	case wrong > 0 && d.roll(wrong) == 0:
		p.Domain = d.one(wrongSites)
	case d.roll(20) == 0:
		p.Domain, p.Literal = d.one([]string{"10.0.0.1", "2001:db8::1"}), true
	case wrong > 0 && d.roll(20) == 0:
		p.Domain = ""
	case wrong > 0 && d.roll(50) == 0:
		p.Null = true
	}
	return p
}

func (d *dice) value() string {
	switch d.roll(5) {
	case 0, 1:
		s := "@" + d.one(domainSorts)
		if d.roll(4) == 0 {
			s = strings.ToUpper(s)
		}
		return s
	default:
		return d.form(d.mailbox(0))
	}
}

// table is a table's text by chance; one of so many values may not be.
func (d *dice) table(wrong int) string {
	var keys, l []string
	for range d.roll(8) {
		key := d.one(localSorts[:4]) + "@" + d.one(domainSorts)
		switch d.roll(8) {
		case 0, 1, 2:
			key = "@" + d.one(domainSorts)
		case 3:
			key = d.one([]string{"a", "x", "@", ".example", "postmaster", "postmaster@mx.example", "@mx.example", `"a"@x`, "a@x@y", "a@[10.0.0.1]", "@10.0.0.1"})
		}
		if d.roll(4) == 0 {
			key = strings.ToUpper(key)
		}
		if slices.Contains(keys, lowered(key)) && d.roll(40) > 0 {
			continue
		}
		keys = append(keys, lowered(key))
		value := d.value()
		if wrong > 0 && d.roll(wrong) == 0 {
			value = d.one(wrongValues)
		}
		l = append(l, key+d.one([]string{" ", "\t", "  ", "\n "})+value)
		if d.roll(10) == 0 {
			l = append(l, d.one([]string{"", "# x", " # a@x b@y"}))
		}
	}
	return strings.Join(l, "\n")
}

// both are a Canon by chance and its model.
func (d *dice) both(t *testing.T, wrong int) (*canon.Canon, model, api.Errno) {
	t.Helper()
	var tables []string
	for range d.roll(4) {
		tables = append(tables, d.table(wrong))
	}
	name := d.one([]string{host, host, "x", domainOf(243), domainOf(255)})
	if wrong > 0 && d.roll(wrong) == 0 {
		name = d.one(wrongSites)
	}
	if wrong > 0 && d.roll(wrong) == 0 {
		tables = append(tables, make([]string, 9-d.roll(3))...)
	}
	m, want := modelNew(name, tables)
	c, e := canon.New(name, tables)
	if e != want || (c == nil) != (want != api.OK) {
		t.Fatalf("New(%s, %q): %v %v, not %v", short(name), tables, c, e, want)
	}
	return c, m, want
}

func TestP15_1Chance(t *testing.T) {
	d := dice(151)
	codes := map[api.Errno]int{}
	for range 10000 {
		_, _, e := d.both(t, 30)
		codes[e]++
	}
	if codes[api.OK] < 2000 || codes[api.ErrArg] < 200 || codes[api.ErrCanonForm] < 1000 {
		t.Error(codes)
	}
}

// right is a Canon by chance that may be, and its model.
func (d *dice) right(t *testing.T) (*canon.Canon, model) {
	t.Helper()
	for {
		if c, m, e := d.both(t, 0); e == api.OK {
			return c, m
		}
	}
}

func TestP15_2Chance(t *testing.T) {
	d := dice(152)
	turned, settled := 0, 0
	for range 3000 {
		c, m := d.right(t)
		isOnce := isSettled(m)
		for range 20 {
			p := d.mailbox(15)
			want := m.path(p)
			if got := c.Path(p); got != want {
				t.Fatalf("%q: Path(%s): %s, not %s", m, named(p), named(got), named(want))
			}
			if want != p {
				turned++
				if isOnce {
					settled++
				}
			}
			if isOnce {
				stays(t, c, want)
			}
		}
	}
	if turned < 5000 || settled < 500 {
		t.Error(turned, settled)
	}
}

// body is a field's body by chance, in which little or nothing is wrong.
func (d *dice) body() string {
	fills := []string{"", "", "", " ", "\t", "\r\n ", "(x)", " (a@x) "}
	s := d.one(fills)
	for range d.roll(5) {
		spec := d.form(d.mailbox(60))
		if d.roll(4) == 0 {
			spec = strings.Replace(spec, "@", d.one(fills)+"@"+d.one(fills), 1)
		}
		switch d.roll(6) {
		case 0:
			spec = d.one([]string{"J ", `"J, K"`, "", "\x80 "}) + "<" + d.one([]string{"", "", "@r:"}) + spec + ">"
		case 1:
			spec = "g:" + d.one(fills) + spec + ";"
		}
		s += spec + d.one(fills) + d.one([]string{",", ",", ",", ",,", ", "}) + d.one(fills)
	}
	if d.roll(20) == 0 {
		s += d.one([]string{"(", "\x00", "\r", "\n", "(\x00)", `"\` + "\x00\" <a@x>", "J", "postmaster", "\\", "(" + xs(970+d.roll(40)) + ")"})
	}
	return s
}

func TestP15_3Chance(t *testing.T) {
	d := dice(153)
	turned := 0
	for range 800 {
		c, m := d.right(t)
		for range 20 {
			body := d.body()
			want := m.body(body)
			if got := c.Body(body); got != want {
				t.Fatalf("%q: Body(%s): %q, not %q", m, body, got, want)
			}
			if want != body {
				turned++
			}
		}
	}
	if turned < 2000 {
		t.Error(turned)
	}
}

func (d *dice) content() string {
	s := ""
	for range d.roll(6) {
		name := d.one(twelve)
		switch d.roll(6) {
		case 0:
			name = d.one(others)
		case 1:
			name = d.one(letters(name))
		}
		s += name + ":" + d.body()
		if d.roll(30) > 0 {
			s += "\r\n"
		} else {
			s += d.one([]string{"", "\n", "\r", "\r\n\r\n", "\r\r\n"})
		}
	}
	return s + d.one([]string{"", "\r\n", "\r\nTo: a@x\r\n", "no field\r\n", "To: a@x", " a@x", "\x00", "To : a@x\r\n"})
}

func TestP15_4Chance(t *testing.T) {
	d := dice(154)
	turned := 0
	for range 600 {
		c, m := d.right(t)
		for range 20 {
			data := d.content()
			want := m.message(data)
			if got := string(c.Message([]byte(data))); got != want {
				t.Fatalf("%q: Message(%q): %q, not %q", m, data, got, want)
			}
			follow(t, c, data)
			if want != data {
				turned++
			}
		}
	}
	if turned < 2000 {
		t.Error(turned)
	}
}

// everyRow calls do with all rows of up to n of these pieces.
func everyRow(n int, pieces []string, do func(s string)) {
	var lay func(s string, n int)
	lay = func(s string, n int) {
		do(s)
		if n > 0 {
			for _, piece := range pieces {
				lay(s+piece, n-1)
			}
		}
	}
	lay("", n)
}

// TestP15_4Rows: all rows of a few pieces.
func TestP15_4Rows(t *testing.T) {
	tables := []string{"a@x b.c@longer", "@y @z"}
	c := made(t, host, tables...)
	m, _ := modelNew(host, tables)
	agree := func(data string) {
		if got, want := string(c.Message([]byte(data))), m.message(data); got != want {
			t.Fatalf("Message(%s): %s, not %s", short(data), short(got), short(want))
		}
		follow(t, c, data)
	}
	everyRow(5, []string{"To", ":", " ", "a@x", "q@y", ",", "\r\n", "\n", "\x00"}, agree)
	everyRow(4, []string{"a@x", "\"q\"@Y", "b@w", ",", "<", ">", "(", ")", "g:", ";", "\r\n "}, func(s string) {
		if got, want := c.Body(s), m.body(s); got != want {
			t.Fatalf("Body(%s): %s, not %s", short(s), short(got), short(want))
		}
		agree("Cc:" + s + "\r\n")
	})
	everyRow(4, []string{"cC: a@x", "S: a@x", "\r\n", "\r\n ", ",a@x", "\r", "\n", "(\x00)", "(" + xs(986) + ")"}, agree)
}

// TestP1Great: all calls end with great things, too.
func TestP1Great(t *testing.T) {
	c := made(t, host, given)
	for _, piece := range []string{"", "a", "\r\n", "\n", "To: a@x.example\r\n", "To:a@x.example,", "a@x.example,", "(", ")", "\x00", "\xff", "@", ":", " ", "\"", "\\"} {
		great := strings.Repeat(piece, 1<<20)
		for _, p := range []api.Path{at(great, "x"), at("a", great), at(great, great), {Local: great, Null: true}, atLiteral("a", great)} {
			if great != "" {
				stays(t, c, p)
			}
		}
		keeps(t, c, great)
		leaves(t, c, great, "To:"+great, "\r\n"+great)
		if great != "" {
			refuses(t, api.ErrArg, great)
			refuses(t, api.ErrArg, great, great)
		}
		if piece != "" && piece != "\n" {
			refuses(t, api.ErrCanonForm, host, great)
			refuses(t, api.ErrCanonForm, host, "a@x "+great)
		}
		refuses(t, api.ErrArg, host, make([]string, 1<<20)...)
	}
}
