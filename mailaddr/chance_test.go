package mailaddr_test

import (
	"slices"
	"strings"
	"testing"

	"waybill/api"
	"waybill/mailaddr"
)

// maker makes bodies by chance, token by token: what it lays between tokens, how often something that may not be.
type maker struct {
	d     dice
	fills []string
	wrong int // one in so many; 0: none
	row   []string
}

func (m *maker) lay(tokens ...string) {
	m.row = append(m.row, tokens...)
}

// slip tells whether something that may not be is to be laid now.
func (m *maker) slip() bool { return m.wrong > 0 && m.d.roll(m.wrong) == 0 }

func (m *maker) word() {
	switch {
	case m.slip():
		m.lay(m.d.one([]string{"\x80", `""`, "\"\\\x00\"", strings.Repeat("l", 65), strings.Repeat("l", 50+m.d.roll(20)), `"` + strings.Repeat("l", 50+m.d.roll(20)) + `"`, "\"\x80\"", "", `"`, "a\x00", "\"\x7f\"", "[1.2.3.4]"}))
	case m.d.roll(3) == 0:
		m.lay(m.d.one([]string{`"a"`, `" "`, `"a b"`, "\"\t\"", "\"a\r\n b\"", `"\""`, `"\\"`, `"\a\b"`, `"."`, `"(x)"`, `"a@b"`, `"<,;:>"`, "\"\\\t\""}))
	default:
		m.lay(m.d.one([]string{"a", "A", "b1", "c-d", "x", "!#$%&'*", "+-/=?^_", "`{|}~", "0"}))
	}
}

func (m *maker) domain() {
	if m.d.roll(4) == 0 {
		m.lay(m.d.one([]string{"[1.2.3.4]", "[10.0.0.1]", "[IPv6:::1]", "[ipv6:2001:DB8::0:1]", "[IPv6:1::3:4:5:6:7:8]"}))
		return
	}
	if m.slip() {
		m.lay(m.d.one([]string{"-", "b-", "b_", "\x80", "[b]", "[]", "[1.2.3]", "", `"b"`, domainOf(250 + m.d.roll(10))}))
		return
	}
	m.lay(m.d.one([]string{"b", "B", "example", "1", "a-b"}))
	for m.d.roll(2) == 0 {
		m.lay(".", m.d.one([]string{"c", "ORG", "x1", "0"}))
	}
}

func (m *maker) spec() {
	m.word()
	for n := 0; n < 4 && m.d.roll(3) == 0; n++ { // no more, so that it is not too long
		m.lay(".")
		m.word()
	}
	m.lay("@")
	m.domain()
}

func (m *maker) phrase() {
	sorts := []string{"N", "Joe", "\x80\xff", `"N, M"`, `""`, "\"\x80\"", "\"\\\x00\"", "Q", "\"\r\n\""}
	m.lay(m.d.one(sorts))
	for m.d.roll(2) == 0 {
		m.lay(m.d.one(append(sorts, ".", ".")))
	}
}

func (m *maker) box() {
	if m.d.roll(2) == 0 {
		m.spec()
		return
	}
	if m.d.roll(2) == 0 {
		m.phrase()
	}
	m.lay("<")
	if m.d.roll(3) == 0 {
		m.lay("@", m.d.one([]string{"x", "[y]", "[]", "-"}))
		for m.d.roll(2) == 0 {
			m.lay(",", "@", "x", ".", "y")
		}
		m.lay(":")
	}
	m.spec()
	m.lay(">")
}

func (m *maker) boxes() {
	for m.d.roll(3) > 0 {
		if m.d.roll(4) > 0 {
			m.box()
		}
		m.lay(",")
	}
	if m.d.roll(2) == 0 {
		m.box()
	}
}

func (m *maker) list() {
	m.row = nil
	for m.d.roll(4) > 0 {
		switch m.d.roll(5) {
		case 0:
			m.phrase()
			m.lay(":")
			m.boxes()
			m.lay(";")
		case 1:
		default:
			m.box()
		}
		m.lay(",")
	}
	if m.d.roll(2) == 0 {
		m.box()
	}
}

// body is the row with blanks and comments between, some of them left out.
func (m *maker) body() string {
	s := m.d.one(m.fills)
	for i, token := range m.row {
		s += token
		if fill := m.d.one(m.fills); fill != "" || i+1 == len(m.row) || !isGlued(token, m.row[i+1]) {
			s += fill
		} else {
			s += " "
		}
	}
	return s
}

// isGlued tells whether two tokens are one, if nothing stands between them.
func isGlued(a, b string) bool {
	isAtom := func(c byte) bool { return c >= 128 || isOneOf(c, ofAtom) }
	return a != "" && b != "" && isAtom(a[len(a)-1]) && isAtom(b[0])
}

// slips turns a token or a byte of a body into something else, now and then.
func (m *maker) slips(body string) string {
	if m.d.roll(3) > 0 {
		return body
	}
	i := m.d.roll(len(body) + 1)
	s := m.d.one([]string{string([]byte{byte(m.d.roll(256))}), m.d.one([]string{"<", ">", "@", ",", ";", ":", ".", `"`, "(", ")", "[", "]", `\`, " ", "a"})})
	return body[:i] + s + body[min(len(body), i+m.d.roll(3)):]
}

var fills = []string{"", "", "", "", " ", "\r\n\t", "(x)", "(a@b, (c)\\))", " (\x00\xff\") "}

func anyPath(d *dice) api.Path {
	locals := []string{"a", "a.b", "a b", `"`, `\`, ".", "a..b", "postmaster", "(x)", strings.Repeat("l", 64), "Q"}
	if d.roll(4) == 0 {
		return atLiteral(d.one(locals), d.one([]string{"1.2.3.4", "::", "2001:db8::1"}))
	}
	return at(d.one(locals), d.one([]string{"b", "example.org", domainOf(180), "1", "a-b.c"}))
}

// TestP10_1Chance holds bodies by chance against the model.
func TestP10_1Chance(t *testing.T) {
	m := maker{d: 1, fills: fills, wrong: 40}
	codes := map[api.Errno]int{}
	for range 20000 {
		m.list()
		codes[sameList(t, m.slips(m.body()))]++
	}
	if codes[api.OK] < 3000 || codes[api.ErrMailForm] < 3000 || codes[api.ErrMailLong] < 200 {
		t.Error(codes)
	}
}

// TestP10_2Chance holds what Replace writes against the model, and its paths and names against the body's.
func TestP10_2Chance(t *testing.T) {
	m := maker{d: 2, fills: fills, wrong: 200}
	var wrong []api.Path
	for p := range wrongPaths() {
		wrong = append(wrong, p)
	}
	slices.SortFunc(wrong, func(p, q api.Path) int {
		return strings.Compare(p.Local+"@"+p.Domain, q.Local+"@"+q.Domain)
	})
	codes := map[api.Errno]int{}
	for range 10000 {
		m.list()
		body := m.body()
		found, _ := mailaddr.Parse(body)
		var l []api.Path
		for range max(0, len(found)+max(0, m.d.roll(16)-14)-max(0, m.d.roll(16)-14)) {
			if m.d.roll(60) == 0 {
				l = append(l, wrong[m.d.roll(len(wrong))])
			} else {
				l = append(l, anyPath(&m.d))
			}
		}
		codes[sameReplace(t, body, l)]++
	}
	for _, code := range []api.Errno{api.OK, api.ErrMailForm, api.ErrArg, api.ErrPathForm, api.ErrPathLong} {
		if codes[code] < 50 {
			t.Error(codes)
		}
	}
}

// TestP10_4List: Parse of what List writes is these paths.
func TestP10_4List(t *testing.T) {
	d := dice(3)
	for range 1000 {
		var l []api.Path
		for range d.roll(8) * d.roll(8) {
			l = append(l, anyPath(&d))
		}
		s, e := mailaddr.List(l)
		if e != api.OK {
			t.Fatalf("List(%+v): %v", l, e)
		}
		has(t, s, l...)
		itself(t, s, mustParse(t, s))
	}
}

// TestP10_4Replace: Parse of what Replace writes is the others in the same order, with the same names; by its own a body's addresses stay.
func TestP10_4Replace(t *testing.T) {
	m := maker{d: 4, fills: fills}
	count := 0
	for range 5000 {
		m.list()
		body := m.body()
		found := mustParse(t, body)
		itself(t, body, found)
		var l []api.Path
		for range found {
			l = append(l, anyPath(&m.d))
		}
		s, e := mailaddr.Replace(body, l)
		if e != api.OK {
			t.Fatalf("Replace(%s, %+v): %v", short(body), l, e)
		}
		again := mustParse(t, s)
		if !slices.Equal(pathsOf(again), l) || !slices.Equal(namesOf(again), namesOf(found)) {
			t.Fatalf("%s by %+v: %s: %+v", short(body), l, short(s), again)
		}
		count += len(found)
	}
	if count < 5000 {
		t.Error("so few addresses:", count)
	}
}

func mustParse(t *testing.T, body string) []api.MailAddr {
	t.Helper()
	l, e := mailaddr.Parse(body)
	if e != api.OK {
		t.Fatalf("Parse(%s): %v", short(body), e)
	}
	return l
}

// TestP10_5Chance: comments and blanks between tokens turn no mailbox, nor how many there are, nor who has a name.
func TestP10_5Chance(t *testing.T) {
	m := maker{d: 5}
	for range 10000 {
		m.list()
		m.fills = []string{""}
		bare := m.body()
		want := mustParse(t, bare)
		m.fills = append(fills, "\t", "\n", "((()))", `(\(\"\\)`)
		body := m.body()
		l := mustParse(t, body)
		if !slices.Equal(pathsOf(l), pathsOf(want)) {
			t.Fatalf("%s: %+v, and %s: %+v", short(bare), want, short(body), l)
		}
		for i := range l {
			if (l[i].Name == "") != (want[i].Name == "") {
				t.Fatalf("%s: %+v, and %s: %+v", short(bare), want[i], short(body), l[i])
			}
		}
	}
}
