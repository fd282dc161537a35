package path

import (
	"strings"

	"waybill/api"
	"waybill/cidr"
)

const (
	marks      = "!#$%&'*+-/=?^_`{|}~" // what may stand in an atom beside letters and digits
	mostLabel  = 63
	postmaster = "postmaster"
	sixMark    = "IPv6:"
)

func isLetterOrDigit(c byte) bool {
	return 'a' <= c && c <= 'z' || 'A' <= c && c <= 'Z' || '0' <= c && c <= '9'
}

func isOfAtom(c byte) bool { return isLetterOrDigit(c) || strings.IndexByte(marks, c) >= 0 }

func isOfName(c byte) bool { return isLetterOrDigit(c) || c == '-' }

func isOfValue(c byte) bool { return isShown(c) && c != ' ' && c != '=' }

func isShown(c byte) bool { return ' ' <= c && c <= '~' }

func isLabel(s string) bool {
	return s != "" && len(s) <= mostLabel && s[0] != '-' && s[len(s)-1] != '-'
}

// taken is what a text is taken as, all of it, however long.
func taken(s string) (api.Path, bool) {
	if s == "" {
		return api.Path{Null: true}, true
	}
	r := reader{s: s}
	p, is := r.mailbox()
	if !is || r.at < len(s) {
		return api.Path{}, false
	}
	return p, true
}

// reader goes through a text: how many of its bytes are read. What it answers shares nothing with the text.
type reader struct {
	s  string
	at int
}

// has reads a byte, if it is the next one.
func (r *reader) has(c byte) bool {
	if r.at == len(r.s) || r.s[r.at] != c {
		return false
	}
	r.at++
	return true
}

// row reads bytes of one kind up to the first other one.
func (r *reader) row(isOne func(c byte) bool) string {
	from := r.at
	for r.at < len(r.s) && isOne(r.s[r.at]) {
		r.at++
	}
	return r.s[from:r.at]
}

func (r *reader) path() (api.Path, bool) {
	var p api.Path
	var is bool
	if !r.has('<') {
		goto refuse
	}
	if r.has('>') {
		return api.Path{Null: true}, true
	}
	if r.has('@') && !r.route() {
		goto refuse
	}
	if p, is = r.mailbox(); !is {
		goto refuse
	}
	if !r.has('>') {
		goto refuse
	}
	return p, true
refuse:
	return api.Path{}, false
}

// route reads one behind its first @.
func (r *reader) route() bool {
next:
	if _, is := r.domain(); !is {
		goto refuse
	}
	if r.has(':') {
		return true
	}
	if r.has(',') && r.has('@') {
		goto next
	}
refuse:
	return false
}

func (r *reader) mailbox() (api.Path, bool) {
	from := r.at
	var p api.Path
	var is bool
	if p.Local, is = r.local(); !is {
		goto refuse
	}
	if !r.has('@') {
		if !strings.EqualFold(r.s[from:r.at], postmaster) { // as it stands there: in quotes it is none alone
			goto refuse
		}
		return api.Path{Local: postmaster}, true
	}
	if p.Domain, p.Literal, is = r.host(); !is {
		goto refuse
	}
	return p, true
refuse:
	return api.Path{}, false
}

func (r *reader) local() (string, bool) {
	if r.has('"') {
		return r.quoted()
	}
	return r.atoms()
}

func (r *reader) atoms() (string, bool) {
	from := r.at
next:
	if r.row(isOfAtom) == "" {
		goto refuse
	}
	if r.has('.') {
		goto next
	}
	return strings.Clone(r.s[from:r.at]), true
refuse:
	return "", false
}

// quoted reads a local part behind its first quote.
func (r *reader) quoted() (string, bool) {
	var b []byte
	for !r.has('"') {
		r.has('\\') // what stands behind it stands for itself, also a quote
		if r.at == len(r.s) || !isShown(r.s[r.at]) {
			goto refuse
		}
		b = append(b, r.s[r.at])
		r.at++
	}
	if len(b) == 0 {
		goto refuse
	}
	return string(b), true
refuse:
	return "", false
}

// host reads a domain or a literal; whether it is the latter.
func (r *reader) host() (string, bool, bool) {
	if r.has('[') {
		address, is := r.literal()
		return address, is, is
	}
	domain, is := r.domain()
	return domain, false, is
}

func (r *reader) domain() (string, bool) {
	from := r.at
next:
	if !isLabel(r.row(isOfName)) {
		goto refuse
	}
	if r.has('.') {
		goto next
	}
	return strings.Clone(strings.ToLower(r.s[from:r.at])), true
refuse:
	return "", false
}

// literal reads one behind its first bracket.
func (r *reader) literal() (string, bool) {
	var form string
	text := r.row(func(c byte) bool { return c != ']' })
	isSix := len(text) >= len(sixMark) && strings.EqualFold(text[:len(sixMark)], sixMark)
	if isSix {
		text = text[len(sixMark):]
	}
	n, code := cidr.Addr(text)
	if code != api.OK || n.Six != isSix || !r.has(']') {
		goto refuse
	}
	form, _ = cidr.Show(n)
	return form, true
refuse:
	return "", false
}

func (r *reader) param() (api.Param, bool) {
	var p api.Param
	if !r.has(' ') {
		goto refuse
	}
	p.Name = strings.Clone(strings.ToUpper(r.row(isOfName)))
	if p.Name == "" || p.Name[0] == '-' {
		goto refuse
	}
	if p.Has = r.has('='); p.Has {
		p.Value = strings.Clone(r.row(isOfValue))
		if p.Value == "" {
			goto refuse
		}
	}
	return p, true
refuse:
	return api.Param{}, false
}
