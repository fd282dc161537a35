package mailaddr_test

import (
	"regexp"
	"slices"
	"strings"
	"testing"

	"waybill/api"
	"waybill/mailaddr"
	"waybill/path"
)

// The model is the chapter's words as patterns: of tokens over bytes, of lists over the tokens' sorts. For patterns a byte from 128 on stands as \x01, and \x01 as \x02, which is as wrong.
const (
	atomText    = "[-a-zA-Z0-9!#$%&'*+/=?^_`{|}~\x01]+"
	quotedText  = `"(?:[ !#-\[\]-~\x01\t\r\n]|\\[^\r\n])*"`
	literalText = `\[[!-Z^-~]*\]`

	wordSort    = `[aq]`
	phraseSorts = `[aq][aq.]*`
	domainSorts = `(?:a(?:\.a)*|l)`
	specSorts   = wordSort + `(?:\.` + wordSort + `)*@` + domainSorts
	routeSorts  = `@` + domainSorts + `(?:,@` + domainSorts + `)*:`
	boxSorts    = `(?:` + specSorts + `|(?:` + phraseSorts + `)?<(?:` + routeSorts + `)?` + specSorts + `>)`
	groupSorts  = phraseSorts + `:(?:` + boxSorts + `)?(?:,(?:` + boxSorts + `)?)*;`
	itemSorts   = `(?:` + groupSorts + `|` + boxSorts + `)?`
)

var (
	tokenFront = regexp.MustCompile(`\A(?:(` + atomText + `)|(` + quotedText + `)|(` + literalText + `)|([<>@,;:.])|([ \t\r\n]+))`)
	plainFront = regexp.MustCompile(`(?s)\A(?:[^()\\]|\\.)*`)
	escaped    = regexp.MustCompile(`(?s)\\.`)
	listSorts  = regexp.MustCompile(`\A` + itemSorts + `(?:,` + itemSorts + `)*\z`)
	foundSorts = regexp.MustCompile(`(` + phraseSorts + `)?<(?:` + routeSorts + `)?(` + specSorts + `)>|(` + specSorts + `)`)
)

// shadow is a body as the patterns see it, byte by byte.
func shadow(body string) string {
	b := []byte(body)
	for i, c := range b {
		switch {
		case c >= 128:
			b[i] = 1
		case c == 1:
			b[i] = 2
		}
	}
	return string(b)
}

// modelComment is how many bytes the comment has that a text begins with; 0, if it does not end.
func modelComment(s string) int {
	for at := 1; ; {
		at += len(plainFront.FindString(s[at:]))
		switch {
		case at == len(s), s[at] == '\\':
			return 0
		case s[at] == ')':
			return at + 1
		}
		inner := modelComment(s[at:])
		if inner == 0 {
			return 0
		}
		at += inner
	}
}

// modelTokens are the tokens' sorts and where they stand.
func modelTokens(body string) (string, [][2]int, bool) {
	s := shadow(body)
	sorts := ""
	var spots [][2]int
	for at := 0; at < len(s); {
		if s[at] == '(' {
			n := modelComment(s[at:])
			if n == 0 {
				return "", nil, false
			}
			at += n
			continue
		}
		m := tokenFront.FindStringSubmatch(s[at:])
		if m == nil {
			return "", nil, false
		}
		if m[5] == "" {
			sort := m[4]
			for i, one := range []string{"a", "q", "l"} {
				if m[i+1] != "" {
					sort = one
				}
			}
			sorts += sort
			spots = append(spots, [2]int{at, at + len(m[0])})
		}
		at += len(m[0])
	}
	return sorts, spots, true
}

func modelWord(text string) string {
	if text[0] != '"' {
		return text
	}
	text = text[1 : len(text)-1]
	word, at := "", 0
	for _, m := range escaped.FindAllStringIndex(shadow(text), -1) {
		word += text[at:m[0]] + text[m[0]+1:m[1]]
		at = m[1]
	}
	return strings.NewReplacer("\r", "", "\n", "", "\t", " ").Replace(word + text[at:])
}

// modelPath is what is said of an address, whose tokens these are.
func modelPath(texts []string) (api.Path, api.Errno) {
	i := slices.Index(texts, "@")
	var p api.Path
	for _, text := range texts[:i] {
		p.Local += modelWord(text)
	}
	host := strings.Join(texts[i+1:], "")
	domain, isLiteral, e := path.Domain(host)
	if e == api.ErrPathForm || path.Right(at(p.Local, "x")) == api.ErrPathForm {
		return api.Path{}, api.ErrMailForm
	}
	p.Domain, p.Literal = domain, isLiteral
	if e == api.ErrPathLong || path.Right(p) == api.ErrPathLong {
		return api.Path{}, api.ErrMailLong
	}
	return p, api.OK
}

func modelParse(body string) ([]api.MailAddr, api.Errno) {
	if len(body) > 65536 {
		return nil, api.ErrMailLong
	}
	sorts, spots, is := modelTokens(body)
	if !is || !listSorts.MatchString(sorts) {
		return nil, api.ErrMailForm
	}
	var l []api.MailAddr
	for _, m := range foundSorts.FindAllStringSubmatchIndex(sorts, -1) {
		from, to := max(m[4], m[6]), max(m[5], m[7])
		var texts []string
		for _, s := range spots[from:to] {
			texts = append(texts, body[s[0]:s[1]])
		}
		p, e := modelPath(texts)
		if e != api.OK {
			return nil, e
		}
		a := addr(p, spots[from][0], spots[to-1][1], "")
		if m[2] >= 0 {
			words := strings.TrimRight(sorts[m[2]:m[3]], ".")
			a.Name = body[spots[m[2]][0]:spots[m[2]+len(words)-1][1]]
		}
		l = append(l, a)
	}
	if len(l) > 200 {
		return nil, api.ErrMailMany
	}
	return l, api.OK
}

// sameList wants Parse to answer what the model does.
func sameList(t *testing.T, body string) api.Errno {
	t.Helper()
	want, code := modelParse(body)
	if l, e := mailaddr.Parse(body); !slices.Equal(l, want) || e != code {
		t.Fatalf("Parse(%s): %+v %v, not %+v %v", short(body), l, e, want, code)
	}
	return code
}

// modelReplace is a body with other paths in the place of its own.
func modelReplace(body string, l []api.Path) (string, api.Errno) {
	found, code := modelParse(body)
	switch {
	case code != api.OK:
		return "", code
	case len(found) != len(l):
		return "", api.ErrArg
	}
	for i := range l {
		if l[i].Null || l[i].Domain == "" {
			return "", api.ErrArg
		}
		if e := path.Right(l[i]); e != api.OK {
			return "", e
		}
	}
	for i := range l {
		a := found[len(l)-1-i] // from the last one on, so that the places of the others stay
		form, _ := path.Show(l[len(l)-1-i])
		body = body[:a.From] + form + body[a.To:]
	}
	if len(body) > 65536 {
		return "", api.ErrMailLong
	}
	return body, api.OK
}

func sameReplace(t *testing.T, body string, l []api.Path) api.Errno {
	t.Helper()
	want, code := modelReplace(body, l)
	if s, e := mailaddr.Replace(body, l); s != want || e != code {
		t.Fatalf("Replace(%s, %+v): %s %v, not %s %v", short(body), l, short(s), e, short(want), code)
	}
	return code
}
