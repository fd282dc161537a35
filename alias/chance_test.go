package alias_test

import (
	"slices"
	"strings"
	"testing"

	"waybill/alias"
	"waybill/api"
	"waybill/path"
)

var (
	localSorts  = []string{"a", "b", "c", "A", "c.d", "a b", "a,b", ",", `"`, `\`, "postmaster", "Postmaster", strings.Repeat("l", 64)}
	domainSorts = []string{"x", "y", "z", "x.y", "10.0.0.1", domainOf(189)}
	blankSorts  = []string{"", "", "", " ", "\t", " \t", "\n "}
	wrongLocals = []string{"", "a\x00", "\x80", "a\t", strings.Repeat("l", 65), "a\u00e9", xs(63) + " "}
	wrongSites  = []string{"", "X", "-", "x.", "[10.0.0.1]", domainOf(250), domainOf(256), "\u017f", "x,"}
)

// form is a mailbox as a text that stands for it, in some letters.
func (d *dice) form(p api.Path) string {
	s, e := path.Show(p)
	if e != api.OK {
		return p.Local + "@" + p.Domain
	}
	if i := strings.LastIndexByte(s, '@'); i >= 0 && !p.Literal && d.roll(6) == 0 {
		s = s[:i] + strings.ToUpper(s[i:])
	}
	return s
}

// mailbox is one by chance; one of so many may not be, and of 0 each may.
func (d *dice) mailbox(wrong int) api.Path {
	p := at(d.one(localSorts[:3]), d.one(domainSorts[:2]))
	switch {
	case wrong > 0 && d.roll(wrong) == 0:
		p.Local = d.one(wrongLocals)
	case wrong > 0 && d.roll(wrong) == 0:
		p.Domain = d.one(wrongSites)
	case wrong > 0 && d.roll(2*wrong) == 0:
		p.Null = true
	case d.roll(5) == 0:
		p = at(d.one(localSorts), d.one(domainSorts))
	case d.roll(20) == 0:
		p.Domain, p.Literal = d.one([]string{"10.0.0.1", "2001:db8::1"}), true
	}
	return p
}

// value is one by chance; one of so many may not be.
func (d *dice) value(wrong int) string {
	var l []string
	n := 1 + d.roll(3)
	if d.roll(50) == 0 {
		n = 98 + d.roll(3)
	}
	for range n {
		if n > 3 {
			l = append(l, "a@x")
			continue
		}
		l = append(l, d.form(d.mailbox(0)))
	}
	if wrong > 0 && d.roll(wrong) == 0 {
		switch d.roll(3) {
		case 0:
			l = append(l, "a@x", "a@x", "a@x", "a@x", "a@x")
		case 1:
			l = slices.Insert(l, d.roll(len(l)+1), d.one(append(wrongBoxes(), "", " ", "a@x b@x")))
		default:
			l = slices.Insert(l, d.roll(len(l)+1), d.form(d.mailbox(2)))
		}
	}
	s := l[0]
	for _, one := range l[1:] {
		s += d.one(blankSorts[:6]) + "," + d.one(blankSorts) + one
	}
	return s
}

func (d *dice) key() string {
	key := d.one(localSorts[:3]) + "@" + d.one(domainSorts[:2])
	switch d.roll(8) {
	case 0:
		key = "@" + d.one(domainSorts)
	case 1:
		key = d.one([]string{"a", "x", "@", ".x", "postmaster", `"a"@x`, "a@x@y", "a@[10.0.0.1]", "@10.0.0.1", "a,b@x", ",@y", `\@x`})
	case 2:
		key = strings.ToUpper(key)
	}
	return key
}

// table is a table's text by chance; one of so many values may not be.
func (d *dice) table(wrong int) string {
	var keys, l []string
	for range d.roll(8) {
		key := d.key()
		if slices.Contains(keys, lowered(key)) && d.roll(200) > 0 {
			continue
		}
		keys = append(keys, lowered(key))
		l = append(l, key+d.one([]string{" ", "\t", "  ", "\n "})+d.value(wrong))
		if d.roll(10) == 0 {
			l = append(l, d.one([]string{"", "# x", " # a@x b@y"}))
		}
	}
	return strings.Join(l, "\n")
}

// both are an Alias by chance and its model.
func (d *dice) both(t *testing.T, wrong int) (*alias.Alias, model, api.Errno) {
	t.Helper()
	var tables []string
	for range d.roll(4) {
		tables = append(tables, d.table(wrong))
	}
	if wrong > 0 && d.roll(wrong) == 0 {
		tables = append(tables, make([]string, 9-d.roll(4))...)
	}
	m, want := modelNew(tables)
	a, e := alias.New(tables)
	if e != want || (a == nil) != (want != api.OK) {
		t.Fatalf("New(%q): %v %v, not %v", tables, a, e, want)
	}
	return a, m, want
}

func TestP16_1Chance(t *testing.T) {
	d := dice(161)
	codes := map[api.Errno]int{}
	for range 10000 {
		_, _, e := d.both(t, 15)
		codes[e]++
	}
	if codes[api.OK] < 2000 || codes[api.ErrArg] < 200 || codes[api.ErrAliasForm] < 1000 {
		t.Error(codes)
	}
}

// agree wants an Alias to tell of a mailbox what its model tells; which error there was.
func agree(t *testing.T, a *alias.Alias, m model, p api.Path) api.Errno {
	t.Helper()
	want, isFor := m.direct(p)
	if l, is := a.Direct(p); is != isFor || !slices.Equal(l, want) {
		t.Fatalf("%s: Direct(%s): %s %v, not %s %v", shownModel(m), named(p), listed(l), is, listed(want), isFor)
	}
	found, code := m.expand(p)
	if l, e := a.Expand(p); e != code || !slices.Equal(l, found) {
		t.Fatalf("%s: Expand(%s): %s %v, not %s %v", shownModel(m), named(p), listed(l), e, listed(found), code)
	}
	if isRight(p) {
		follow(t, a, p)
	}
	return code
}

func shownModel(m model) string {
	s := ""
	for _, l := range m {
		for _, x := range l[:min(len(l), 10)] {
			s += short(x.key) + ": " + listed(x.boxes) + " "
		}
	}
	return s
}

func TestP16_3Chance(t *testing.T) {
	d := dice(163)
	codes := map[api.Errno]int{}
	several := 0
	for range 4000 {
		a, m, e := d.both(t, 0)
		for e != api.OK {
			a, m, e = d.both(t, 0)
		}
		for range 10 {
			p := d.mailbox(15)
			codes[agree(t, a, m, p)]++
			if l, _ := m.expand(p); len(l) > 1 {
				several++
			}
		}
	}
	if codes[api.OK] < 10000 || codes[api.ErrArg] < 1000 || codes[api.ErrAliasLoop] < 200 || several < 5000 {
		t.Error(codes, several)
	}
}

// TestP16_3LongChance: of many who stand for the next ones, sometimes for others or for themselves.
func TestP16_3LongChance(t *testing.T) {
	d := dice(164)
	codes := map[api.Errno]int{}
	for range 400 {
		l := numbered(45+d.roll(12), "k")
		text := ""
		for i, s := range l {
			value := l[(i+1)%len(l)]
			switch d.roll(40) {
			case 0:
				value += "," + s
			case 1:
				value = d.one(l) + "," + value
			case 2:
				value += "," + d.one(l)
			case 3:
				value = "q@y," + value
			case 4:
				value += "," + d.one(numbered(3, "e"))
			}
			if d.roll(120) > 0 {
				text += s + " " + value + "\n"
			}
		}
		m, _ := modelNew([]string{text})
		a := made(t, text)
		for range 5 {
			codes[agree(t, a, m, box(d.one(l)))]++
		}
	}
	if codes[api.OK] < 200 || codes[api.ErrAliasDeep] < 200 || codes[api.ErrAliasLoop] < 20 {
		t.Error(codes)
	}
}

// TestP16_3WideChance: of many who stand for many others.
func TestP16_3WideChance(t *testing.T) {
	d := dice(165)
	codes := map[api.Errno]int{}
	for range 60 {
		names := append(numbered(190+d.roll(30), "e"), "r@x")
		groups := numbered(2+d.roll(10), "g")
		text := ""
		for _, s := range groups {
			var l []string
			for range 20 + d.roll(81) {
				l = append(l, d.one(names))
			}
			for range d.roll(4) {
				l[d.roll(len(l))] = d.one(groups)
			}
			text += s + " " + strings.Join(l, ",") + "\n"
		}
		all, some := wide("r@x", 195+d.roll(10)) // and sometimes others with them
		text += all
		groups = append(groups, "r@x", some[0])
		m, _ := modelNew([]string{text})
		a := made(t, text)
		for _, s := range groups {
			codes[agree(t, a, m, box(s))]++
		}
	}
	if codes[api.OK] < 50 || codes[api.ErrAliasMany] < 10 {
		t.Error(codes)
	}
}

// everyRow calls do with all rows of up to n of these pieces.
func everyRow(n int, pieces []string, do func(s string)) {
	var lay func(s string, n int)
	lay = func(s string, n int) {
		do(s)
		if n > 0 {
			for _, piece := range pieces {
				lay(s+piece, n-1)
			}
		}
	}
	lay("", n)
}

// TestP16_1Rows: all values of a few pieces.
func TestP16_1Rows(t *testing.T) {
	x := at("a", "x")
	right := 0
	held := func(s string) {
		text := "a@x q@z," + s
		m, want := modelNew([]string{text})
		a, e := alias.New([]string{text})
		if e != want {
			t.Fatalf("New(%s): %v, not %v", short(text), e, want)
		}
		if e == api.OK {
			right++
			l, _ := m.direct(x)
			stands(t, a, x, l...)
		}
	}
	everyRow(6, []string{"b@y", ",", " ", `"`, `\`, "@z"}, held)
	everyRow(5, []string{`"b`, `c"`, "@y", ",", "\t", `"b@y"@z`, `\"`, "d@y", `\`}, held)
	everyRow(4, []string{"b@y", "b@", "[10.0.0.1]", ",", " ,", ", ", "postmaster", "<>", "\n ", "\n#,\n"}, held)
	if right < 500 {
		t.Error(right)
	}
}

// TestP1Great: all calls end with great things, too.
func TestP1Great(t *testing.T) {
	a := made(t, given)
	for _, piece := range []string{"a", ",", "a@x ", "a@x,", "\n", "a@x b@y\n", "\x00", "\xff", "@", " ", "\"", "\\", "\",", "#"} {
		great := strings.Repeat(piece, 1<<20)
		for _, p := range []api.Path{at(great, "x"), at("a", great), at(great, great), {Local: great, Null: true}, atLiteral("a", great), at(great, "")} {
			standsForNone(t, a, p)
			fails(t, a, api.ErrArg, p)
		}
		refuses(t, api.ErrAliasForm, great)
		refuses(t, api.ErrAliasForm, "a@x "+great)
		refuses(t, api.ErrAliasForm, given, "a@x b@y,"+great)
	}
	refuses(t, api.ErrArg, make([]string, 1<<20)...)
	full := strings.Repeat("b@y,", 99) + "b@y\n"
	text := ""
	for _, s := range numbered(600, "k") {
		text += s + " " + full
	}
	expands(t, made(t, slices.Repeat([]string{text}, 8)...), at("k0", "x"), at("b", "y"))
}
