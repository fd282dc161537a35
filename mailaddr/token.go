package mailaddr

import "strings"

const (
	marks = "!#$%&'*+-/=?^_`{|}~" // what may stand in an atom beside letters, digits and bytes from 128 on
	signs = "<>@,;:."
)

// A token's kind is the byte that it begins with, but of atoms; none is where the tokens end.
const (
	none    = 0
	atom    = 'a'
	quoted  = '"'
	literal = '['
)

// token is one: its kind, where it stands in the body.
type token struct {
	kind     byte
	from, to int
}

func (t token) isWord() bool { return t.kind == atom || t.kind == quoted }

func isBlank(c byte) bool { return c == ' ' || c == '\t' || c == '\r' || c == '\n' }

func isOfAtom(c byte) bool {
	return 'a' <= c && c <= 'z' || 'A' <= c && c <= 'Z' || '0' <= c && c <= '9' || c >= 128 || strings.IndexByte(marks, c) >= 0
}

func isOfQuoted(c byte) bool { return isBlank(c) || ' ' < c && c != 127 && c != quoted }

// isEscaped tells whether a byte may stand behind a \ in a quoted text.
func isEscaped(c byte) bool { return c != '\r' && c != '\n' }

func isOfLiteral(c byte) bool { return ' ' < c && c < 127 && c != '[' && c != ']' && c != '\\' }

// cut cuts a body into tokens, if it is nothing but these, blanks and comments.
func cut(body string) ([]token, bool) {
	var l []token
	for at := 0; at < len(body); {
		from, kind := at, body[at]
		at++
		switch {
		case isBlank(kind):
			continue
		case kind == '(':
			for depth := 1; depth > 0; at++ {
				if at >= len(body) {
					goto refuse
				}
				switch body[at] {
				case '(':
					depth++
				case ')':
					depth--
				case '\\':
					at++
				}
			}
			continue
		case kind == quoted:
			for ; at < len(body) && isOfQuoted(body[at]); at++ {
				if body[at] != '\\' {
					continue
				}
				if at++; at == len(body) || !isEscaped(body[at]) {
					goto refuse
				}
			}
			if at == len(body) || body[at] != quoted {
				goto refuse
			}
			at++
		case kind == literal:
			for at < len(body) && isOfLiteral(body[at]) {
				at++
			}
			if at == len(body) || body[at] != ']' {
				goto refuse
			}
			at++
		case isOfAtom(kind):
			kind = atom
			for at < len(body) && isOfAtom(body[at]) {
				at++
			}
		case strings.IndexByte(signs, kind) < 0:
			goto refuse
		}
		l = append(l, token{kind, from, at})
	}
	return l, true
refuse:
	return nil, false
}
