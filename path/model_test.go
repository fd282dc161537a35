package path_test

import (
	"regexp"
	"slices"
	"strings"
	"testing"

	"waybill/api"
	"waybill/cidr"
	"waybill/path"
)

// The model is the chapter's words as patterns. Letters of either kind are written out, as patterns would take other ones for the same.
const (
	atomPattern    = "[-a-zA-Z0-9!#$%&'*+/=?^_`{|}~]+"
	dotsPattern    = atomPattern + `(?:\.` + atomPattern + `)*`
	quotedPattern  = `"(?:[ !#-\[\]-~]|\\[ -~])+"`
	labelPattern   = `[a-zA-Z0-9](?:[-a-zA-Z0-9]{0,61}[a-zA-Z0-9])?`
	domainPattern  = labelPattern + `(?:\.` + labelPattern + `)*`
	literalPattern = `\[(?:[0-9.]+|[Ii][Pp][Vv]6:[0-9a-fA-F:]+)\]`
	mailboxPattern = `(?:(` + dotsPattern + `|` + quotedPattern + `)@(` + domainPattern + `|` + literalPattern + `)|[Pp][Oo][Ss][Tt][Mm][Aa][Ss][Tt][Ee][Rr])`
	routePattern   = `(?:@` + domainPattern + `(?:,@` + domainPattern + `)*:)?`
	paramPattern   = ` ([a-zA-Z0-9][-a-zA-Z0-9]*)(?:(=)([!-<>-~]+))?`
)

var (
	dotsText    = regexp.MustCompile(`\A` + dotsPattern + `\z`)
	shownText   = regexp.MustCompile(`\A[ -~]+\z`)
	domainText  = regexp.MustCompile(`\A` + domainPattern + `\z`)
	literalText = regexp.MustCompile(`\A` + literalPattern + `\z`)
	mailboxText = regexp.MustCompile(`\A` + mailboxPattern + `\z`)
	pathFront   = regexp.MustCompile(`\A<(?:` + routePattern + mailboxPattern + `)?>`)
	escapedByte = regexp.MustCompile(`\\([ -~])`)
	paramFront  = regexp.MustCompile(`\A` + paramPattern)
)

// modelHost takes a domain or a literal, however long.
func modelHost(s string) (string, bool, bool) {
	if domainText.MatchString(s) {
		return strings.ToLower(s), false, true
	}
	if !literalText.MatchString(s) {
		return "", false, false
	}
	text := s[1 : len(s)-1]
	if strings.Contains(text, ":") {
		text = text[5:]
		if !strings.Contains(text, ":") {
			return "", false, false
		}
	}
	n, e := cidr.Addr(text)
	form, _ := cidr.Show(n)
	return form, true, e == api.OK
}

func modelTaken(local, host string) (api.Path, bool) {
	if host == "" {
		return at("postmaster", ""), true
	}
	if local[0] == '"' {
		local = escapedByte.ReplaceAllString(local[1:len(local)-1], "$1")
	}
	domain, isLiteral, is := modelHost(host)
	return api.Path{Local: local, Domain: domain, Literal: isLiteral}, is
}

func modelLong(p api.Path) bool {
	form := modelForm(p)
	return len(form)-len(modelHostForm(p)) > 64 || len(p.Domain) > 255 || len(form) > 254
}

func modelHostForm(p api.Path) string {
	switch {
	case p.Null || p.Domain == "":
		return ""
	case p.Literal && strings.Contains(p.Domain, ":"):
		return "@[IPv6:" + p.Domain + "]"
	case p.Literal:
		return "@[" + p.Domain + "]"
	}
	return "@" + p.Domain
}

func modelForm(p api.Path) string {
	local := p.Local
	if p.Null {
		return ""
	}
	if !dotsText.MatchString(local) {
		local = strings.ReplaceAll(strings.ReplaceAll(local, `\`, `\\`), `"`, `\"`)
		local = `"` + local + `"`
	}
	return local + modelHostForm(p)
}

func modelRight(p api.Path) api.Errno {
	isDomain := domainText.MatchString(p.Domain) && strings.ToLower(p.Domain) == p.Domain
	if p.Literal {
		n, e := cidr.Addr(p.Domain)
		form, _ := cidr.Show(n)
		isDomain = e == api.OK && form == p.Domain
	}
	switch {
	case p == null, p == at("postmaster", ""):
		return api.OK
	case p.Null, !isDomain, !shownText.MatchString(p.Local):
		return api.ErrPathForm
	case modelLong(p):
		return api.ErrPathLong
	}
	return api.OK
}

func modelMailbox(s string) (api.Path, api.Errno) {
	if s == "" {
		return null, api.OK
	}
	m := mailboxText.FindStringSubmatch(s)
	if m == nil {
		return api.Path{}, api.ErrPathForm
	}
	return modelAnswer(s, m)
}

// modelAnswer is what is told of a match, whose own text may not be longer than that.
func modelAnswer(s string, m []string) (api.Path, api.Errno) {
	p, is := modelTaken(m[1], m[2])
	switch {
	case !is:
		return api.Path{}, api.ErrPathForm
	case modelLong(p):
		return api.Path{}, api.ErrPathLong
	}
	return p, api.OK
}

func modelParse(s string) (api.Path, int, api.Errno) {
	m := pathFront.FindStringSubmatch(s)
	if m == nil {
		return api.Path{}, 0, api.ErrPathForm
	}
	if m[0] == "<>" {
		return null, 2, api.OK
	}
	p, e := modelAnswer(s, m)
	if e == api.OK && len(m[0]) > 256 {
		e = api.ErrPathLong
	}
	if e != api.OK {
		return api.Path{}, 0, e
	}
	return p, len(m[0]), api.OK
}

func modelDomain(s string) (string, bool, api.Errno) {
	d, isLiteral, is := modelHost(s)
	switch {
	case !is:
		return "", false, api.ErrPathForm
	case len(d) > 255:
		return "", false, api.ErrPathLong
	}
	return d, isLiteral, api.OK
}

func modelParams(s string) ([]api.Param, api.Errno) {
	var l []api.Param
	for s != "" {
		m := paramFront.FindStringSubmatch(s)
		if m == nil {
			return nil, api.ErrPathForm
		}
		l = append(l, api.Param{Name: strings.ToUpper(m[1]), Value: m[3], Has: m[2] != ""})
		s = s[len(m[0]):]
	}
	if len(l) > 16 {
		return nil, api.ErrPathMany
	}
	return l, api.OK
}

func sameDomain(t *testing.T, s string) {
	t.Helper()
	want, wantLiteral, code := modelDomain(s)
	if d, is, e := path.Domain(s); d != want || is != wantLiteral || e != code {
		t.Fatalf("Domain(%s): %s %v %v, not %s %v %v", short(s), short(d), is, e, short(want), wantLiteral, code)
	}
}

func sameParams(t *testing.T, s string) api.Errno {
	t.Helper()
	want, code := modelParams(s)
	if l, e := path.Params(s); !slices.Equal(l, want) || e != code {
		t.Fatalf("Params(%s): %+v %v, not %+v %v", short(s), l, e, want, code)
	}
	return code
}

// sameText holds what is read of a text against the model, and wants P9.5 of it; what each says of the text.
func sameText(t *testing.T, s string) (api.Errno, api.Errno) {
	t.Helper()
	box, code := modelMailbox(s)
	if p, e := path.Mailbox(s); p != box || e != code {
		t.Fatalf("Mailbox(%s): %+v %v, not %+v %v", short(s), p, e, box, code)
	}
	if code == api.OK {
		samePath(t, box)
	}
	want, size, pathCode := modelParse(s)
	if p, n, e := path.Parse(s); p != want || n != size || e != pathCode {
		t.Fatalf("Parse(%s): %+v %d %v, not %+v %d %v", short(s), p, n, e, want, size, pathCode)
	}
	if pathCode == api.OK {
		samePath(t, want)
	}
	return code, pathCode
}

// samePath holds what is said of a path, and written of it, against the model, and wants P9.5 of it.
func samePath(t *testing.T, p api.Path) api.Errno {
	t.Helper()
	code := modelRight(p)
	form, angle := modelForm(p), "<"+modelForm(p)+">"
	if code != api.OK {
		form, angle = "", ""
	}
	if e := path.Right(p); e != code {
		t.Fatalf("Right(%+v): %v, not %v", p, e, code)
	}
	if s, e := path.Show(p); s != form || e != code {
		t.Fatalf("Show(%+v): %s %v, not %s %v", p, short(s), e, short(form), code)
	}
	if s, e := path.Angle(p); s != angle || e != code {
		t.Fatalf("Angle(%+v): %s %v, not %s %v", p, short(s), e, short(angle), code)
	}
	if code != api.OK {
		return code
	}
	if q, e := path.Mailbox(form); q != p || e != api.OK {
		t.Fatalf("Mailbox(%s): %+v %v, not %+v", short(form), q, e, p)
	}
	if q, n, e := path.Parse(angle + ">"); q != p || n != len(angle) || e != api.OK {
		t.Fatalf("Parse(%s>): %+v %d %v, not %+v", short(angle), q, n, e, p)
	}
	return api.OK
}

// eachText calls do with each text of these bytes that is at most so long.
func eachText(letters string, most int, do func(s string)) {
	var next func(s string)
	next = func(s string) {
		do(s)
		for i := range len(letters) {
			if len(s) < most {
				next(s + letters[i:i+1])
			}
		}
	}
	next("")
}

// TestP9_2EachText goes through all short texts of a few bytes.
func TestP9_2EachText(t *testing.T) {
	for _, x := range []struct {
		letters       string
		most          int
		boxes, fronts int // at least so many are mailboxes, and begin with a path behind a <
	}{
		{"a.@", 9, 100, 0}, {"\"\\a@", 8, 100, 0}, {"a@>,:", 8, 10, 1000}, {"\"\\>@a", 7, 50, 1000}, {"a-.@", 8, 100, 0}, {"a@\" .<>:\\", 5, 10, 1000},
	} {
		boxes, fronts := 0, 0
		eachText(x.letters, x.most, func(s string) {
			if code, _ := sameText(t, s); code == api.OK {
				boxes++
			}
			if _, code := sameText(t, "<"+s); code == api.OK {
				fronts++
			}
		})
		if boxes < x.boxes || fronts < x.fronts {
			t.Errorf("texts of %q: only %d and %d", x.letters, boxes, fronts)
		}
	}
}

func TestP9_3EachText(t *testing.T) {
	eachText("aA-.", 8, func(s string) { sameDomain(t, s) })
	eachText("[]1.:", 7, func(s string) { sameDomain(t, s) })
	eachText("]1.:", 7, func(s string) { sameDomain(t, "[IPv6:"+s) })
	eachText("iIpPvV6:", 5, func(s string) { sameDomain(t, "["+s+"::]") })
}

func TestP9_4EachText(t *testing.T) {
	right := 0
	eachText(" a-=,", 8, func(s string) {
		if sameParams(t, s) == api.OK {
			right++
		}
	})
	if right < 100 {
		t.Error("so few are parameters:", right)
	}
	eachText(" A\x7f~=0", 6, func(s string) { sameParams(t, s) })
}

// localTexts, hostTexts and routes are pieces of texts, right ones far ahead.
func localTexts(d *dice) string {
	long := strings.Repeat("a", 55+d.roll(12))
	quoted := `"` + strings.Repeat(d.one([]string{" ", "a", `\"`, `\\`, `\a`}), 1+d.roll(66)) + `"`
	return d.one([]string{"a", "A.b", "a-_b", `"a b"`, `"a.b"`, `"a\b"`, `"\"\\"`, `".a"`, "Postmaster", `"<a@b>"`, `"a`, `""`, "a..b", ".a", "", long, `"` + long + `"`, `" ` + long + `"`, quoted, quoted, quoted})
}

func hostTexts(d *dice) string {
	return d.one([]string{"b", "Example.ORG", "a-b.c", "10.0.0.1", "[10.0.0.1]", "[IPv6:::1]", "[ipV6:2001:DB8::0:1]", "[IPv6:1::3:4:5:6:7:8]", domainOf(1 + d.roll(260)), domainOf(180 + d.roll(20)), domainOf(240 + d.roll(20)), "-b", "b-", "b..c", "", "[10.0.0]", "[::1]", "[IPv6:1.2.3.4]", "[10.0.0.1", strings.Repeat("d", 60+d.roll(8))})
}

func routes(d *dice) string {
	return d.one([]string{"", "", "", "@x:", "@X.org,@y.ORG:", "@" + domainOf(1+d.roll(260)) + ":", "@" + domainOf(230+d.roll(25)) + ":", strings.Repeat("@x,", d.roll(90)) + "@y:", "@:", "@x", "@x,:", "@[1.2.3.4]:"})
}

func anyText(d *dice) string {
	s := localTexts(d) + d.one([]string{"@", "@", "@", "@", "@", "@", "@", "@", "", "@@"}) + hostTexts(d)
	if d.roll(12) == 0 {
		s = d.one([]string{"", "postmaster", "Postmaster", "POSTMASTER", "postmasters", `"postmaster"`})
	}
	if d.roll(2) == 0 {
		s = "<" + routes(d) + s + d.one([]string{">", ">", ">", ">", ">x", "> SIZE=1", "", " >"})
	}
	if d.roll(4) == 0 {
		i := d.roll(len(s) + 1)
		s = s[:i] + string([]byte{byte(d.roll(256))}) + s[min(len(s), i+d.roll(2)):]
	}
	return s
}

// TestP9_5Texts reads texts made of pieces by chance, and writes what is read.
func TestP9_5Texts(t *testing.T) {
	d := dice(1)
	boxes, fronts := map[api.Errno]int{}, map[api.Errno]int{}
	for range 100000 {
		code, pathCode := sameText(t, anyText(&d))
		boxes[code]++
		fronts[pathCode]++
		sameDomain(t, hostTexts(&d))
	}
	for _, code := range []api.Errno{api.OK, api.ErrPathForm, api.ErrPathLong} {
		if boxes[code] < 1000 || fronts[code] < 1000 {
			t.Error(boxes, fronts)
		}
	}
}

// TestP9_5OneForm: texts of one path are written the same, and this is the shortest of them.
func TestP9_5OneForm(t *testing.T) {
	d := dice(2)
	forms := map[api.Path]string{}
	for range 100000 {
		s := anyText(&d)
		p, e := path.Mailbox(s)
		if e != api.OK {
			continue
		}
		form, _ := path.Show(p)
		if other, is := forms[p]; is && form != other {
			t.Fatalf("%+v: %s and %s", p, form, other)
		}
		forms[p] = form
		if len(form) > len(s) && !p.Literal {
			t.Fatalf("%s: %s", s, form)
		}
	}
	if len(forms) < 1000 {
		t.Error("so few paths:", len(forms))
	}
	shown := map[string]api.Path{}
	for p, form := range forms {
		if other, is := shown[form]; is {
			t.Fatalf("%s: %+v and %+v", form, p, other)
		}
		shown[form] = p
	}
}

func anyPath(d *dice) api.Path {
	var b []byte
	size := []int{0, 1, 2, 3, 10, 31, 62, 63, 64, 65, 66}[d.roll(11)]
	for range size {
		b = append(b, []byte{'a', 'a', 'a', 'b', 'Z', '0', '_', '~', '.', ' ', '"', '\\', '@', '>', byte(32 + d.roll(95))}[d.roll([]int{4, 8, 9, 15}[d.roll(4)])])
	}
	if size > 0 && d.roll(10) == 0 {
		b[d.roll(size)] = byte(d.roll(256))
	}
	p := at(string(b), d.one([]string{"b", "example.org", "a-b.c", "10.0.0.1", domainOf(1 + d.roll(260)), domainOf(180 + d.roll(20)), domainOf(240 + d.roll(20)), "", "B", "b.", "-b", "b>", "::1"}))
	if d.roll(4) == 0 {
		p.Literal = true
		p.Domain = d.one([]string{"10.0.0.1", "::1", "2001:db8::1", "1:0:3:4:5:6:7:8", "b", "0::1", "", "1.2.3.4/32", "IPv6:::1"})
	}
	switch d.roll(40) {
	case 0:
		p.Null = true
	case 1:
		p = null
	case 2:
		p = at("postmaster", "")
	}
	return p
}

// TestP9_5Paths writes paths by chance, and reads what is written.
func TestP9_5Paths(t *testing.T) {
	d := dice(3)
	codes := map[api.Errno]int{}
	for range 100000 {
		codes[samePath(t, anyPath(&d))]++
	}
	for _, code := range []api.Errno{api.OK, api.ErrPathForm, api.ErrPathLong} {
		if codes[code] < 5000 {
			t.Error(codes)
		}
	}
}

// turned has some of its letters in the other kind.
func turned(d *dice, s string) string {
	b := []byte(s)
	for i, c := range b {
		if isOneOf(c, small+great) && d.roll(2) == 0 {
			b[i] = c ^ 32
		}
	}
	return string(b)
}

// TestP9_6 writes paths in other ways, in which they are the same.
func TestP9_6(t *testing.T) {
	d := dice(4)
	right := 0
	for range 100000 {
		p := anyPath(&d)
		form, e := path.Show(p)
		if e != api.OK || p.Null {
			continue
		}
		right++
		host := modelHostForm(p)
		other := form[:len(form)-len(host)] + turned(&d, host)
		if p.Domain == "" {
			other = turned(&d, form)
		}
		if q, e := path.Mailbox(other); q != p || e != api.OK {
			t.Fatalf("Mailbox(%s): %+v %v, not %+v", short(other), q, e, p)
		}
		text := "<" + d.one([]string{"", "@x:", "@x.org,@Y:", "@" + domainOf(1+d.roll(40)) + ":"}) + other + ">"
		if q, n, e := path.Parse(text + "x"); (q != p || n != len(text) || e != api.OK) && len(text) <= 256 {
			t.Fatalf("Parse(%s): %+v %d %v, not %+v", short(text), q, n, e, p)
		}
	}
	if right < 20000 {
		t.Error("so few are right:", right)
	}
}

// TestP9_6Domain: also of a domain alone.
func TestP9_6Domain(t *testing.T) {
	d := dice(5)
	for range 20000 {
		s := hostTexts(&d)
		one, isOne, code := path.Domain(s)
		other, isOther, otherCode := path.Domain(turned(&d, s))
		if one != other || isOne != isOther || code != otherCode {
			t.Fatalf("%s: %s %v %v, and %s %v %v", short(s), one, isOne, code, other, isOther, otherCode)
		}
	}
}

// TestP9_4Chance reads parameters by chance.
func TestP9_4Chance(t *testing.T) {
	d := dice(6)
	codes := map[api.Errno]int{}
	for range 50000 {
		var s string
		for range d.roll(20) {
			s += " " + d.one([]string{"A", "a", "Size", "8BIT", "x-", "9", "a-b-C"}) + d.one([]string{"", "=1", "=a", "=~!", "=<a@b>", "=\"a\""})
		}
		if d.roll(3) == 0 {
			i := d.roll(len(s) + 1)
			s = s[:i] + string([]byte{byte(d.roll(256))}) + s[min(len(s), i+d.roll(2)):]
		}
		codes[sameParams(t, s)]++
	}
	for _, code := range []api.Errno{api.OK, api.ErrPathForm, api.ErrPathMany} {
		if codes[code] < 1000 {
			t.Error(codes)
		}
	}
}

func FuzzPath(f *testing.F) {
	for _, s := range []string{"", "<>", "<a.b@Example.ORG> SIZE=1", `<@x.org,@y.org:"a b"@[10.0.0.1]>`, `"a\b"@c`, "Postmaster", "[IPv6:::1]", " SIZE=10 body=8BITMIME"} {
		f.Add(s)
	}
	f.Fuzz(func(t *testing.T, s string) {
		sameText(t, s)
		sameDomain(t, s)
		sameParams(t, s)
		samePath(t, at(s, "b"))
		samePath(t, at("a", s))
		samePath(t, atLiteral("a", s))
	})
}
