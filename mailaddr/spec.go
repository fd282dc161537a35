package mailaddr

import (
	"strings"

	"waybill/api"
	"waybill/path"
)

// spec is an address as it stands: the tokens of the phrase ahead of it, of its local part, of its domain.
type spec struct {
	name, local, domain []token
}

func (s spec) address(body string) (api.MailAddr, api.Errno) {
	p, code := s.path(body)
	if code != api.OK {
		return api.MailAddr{}, code
	}
	to := s.domain[len(s.domain)-1].to
	return api.MailAddr{Path: p, From: s.local[0].from, To: to, Name: s.nameText(body)}, api.OK
}

func (s spec) path(body string) (api.Path, api.Errno) {
	text := s.domainText(body)
	domain, isLiteral, code := path.Domain(text)
	if code == api.ErrPathLong {
		domain = strings.ToLower(text) // Right says the same of it, but tells first of a local part that may not be
	}
	p := api.Path{Local: s.localText(body), Domain: domain, Literal: isLiteral}
	if code != api.ErrPathForm {
		code = path.Right(p)
	}
	switch code {
	case api.OK:
		return p, api.OK
	case api.ErrPathLong:
		return api.Path{}, api.ErrMailLong
	}
	return api.Path{}, api.ErrMailForm
}

// nameText is the phrase up to its last word: dots behind it are no part of the name.
func (s spec) nameText(body string) string {
	name := s.name
	for len(name) > 0 && !name[len(name)-1].isWord() {
		name = name[:len(name)-1]
	}
	if len(name) == 0 {
		return ""
	}
	return strings.Clone(body[name[0].from:name[len(name)-1].to])
}

func (s spec) localText(body string) string {
	var b strings.Builder
	for _, t := range s.local {
		if t.kind == quoted {
			b.WriteString(unquoted(body[t.from+1 : t.to-1]))
		} else {
			b.WriteString(body[t.from:t.to])
		}
	}
	return b.String()
}

func (s spec) domainText(body string) string {
	var b strings.Builder
	for _, t := range s.domain {
		b.WriteString(body[t.from:t.to])
	}
	return b.String()
}

// unquoted is what stands for what stands between two quotes.
func unquoted(s string) string {
	var b strings.Builder
	for i := 0; i < len(s); i++ {
		if s[i] == '\\' {
			i++
		}
		switch c := s[i]; c {
		case '\r', '\n':
		case '\t':
			b.WriteByte(' ')
		default:
			b.WriteByte(c)
		}
	}
	return b.String()
}
