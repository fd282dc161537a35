package canon_test

import (
	"regexp"
	"strings"

	"waybill/api"
	"waybill/header"
	"waybill/lines"
	"waybill/mailaddr"
	"waybill/path"
	"waybill/table"
)

// The model is the chapter's words: entries in rows, names by a pattern, texts put together by hand.
var (
	plainDomain = regexp.MustCompile(`\A[a-z0-9]([a-z0-9-]{0,61}[a-z0-9])?(\.[a-z0-9]([a-z0-9-]{0,61}[a-z0-9])?)*\z`)
	ofAddresses = regexp.MustCompile(`(?i)\A(resent-)?(bcc|cc|from|reply-to|sender|to)\z`)
)

type entry struct{ key, value string }

type model struct {
	hostname string
	tables   [][]entry
}

func lowered(s string) string {
	return strings.Map(func(r rune) rune {
		if 'A' <= r && r <= 'Z' {
			return r - 'A' + 'a'
		}
		return r
	}, s)
}

func isDomain(s string) bool { return plainDomain.MatchString(s) && len(s) <= 255 }

func modelValue(value string) bool {
	if value[0] == '@' {
		return isDomain(lowered(value[1:]))
	}
	p, e := path.Mailbox(value)
	return e == api.OK && p != (api.Path{Null: true}) && p != at("postmaster", "")
}

func modelNew(hostname string, tables []string) (model, api.Errno) {
	m := model{hostname: hostname}
	if !isDomain(hostname) || len(tables) > 8 {
		return model{}, api.ErrArg
	}
	for _, text := range tables {
		x, f := table.Parse(text)
		if f.Code != api.OK {
			return model{}, api.ErrCanonForm
		}
		var l []entry
		for k := 0; k < x.Len(); k++ {
			key, value, _ := x.At(k)
			if !modelValue(value) {
				return model{}, api.ErrCanonForm
			}
			l = append(l, entry{key, value})
		}
		m.tables = append(m.tables, l)
	}
	return m, api.OK
}

// value is what the first table says that has something of a mailbox; nothing, if none has.
func (m model) value(local, domain string) string {
	for _, l := range m.tables {
		for _, key := range []string{lowered(local + "@" + domain), lowered("@" + domain)} {
			for _, x := range l {
				if x.key == key {
					return x.value
				}
			}
		}
	}
	return ""
}

func (m model) path(p api.Path) api.Path {
	if p.Null || p.Literal || path.Right(p) != api.OK {
		return p
	}
	q := p
	if q.Domain == "" {
		q.Domain = m.hostname
	}
	value := m.value(q.Local, q.Domain)
	if strings.HasPrefix(value, "@") {
		q.Domain = lowered(value[1:])
	} else if value != "" {
		q, _ = path.Mailbox(value)
	}
	if path.Right(q) != api.OK {
		return p
	}
	return q
}

func (m model) body(body string) string {
	l, e := mailaddr.Parse(body)
	if e != api.OK {
		return body
	}
	s, others := body, 0
	for i := len(l) - 1; i >= 0; i-- { // from the last one on, so that the places of the others stay
		a := l[i]
		p := m.path(a.Path)
		form, _ := path.Show(p)
		s = s[:a.From] + form + s[a.To:]
		if p != a.Path {
			others++
		}
	}
	if others == 0 || len(s) > 65536 {
		return body
	}
	return s
}

func (m model) message(data string) string {
	l, _, e := header.Split([]byte(data))
	if e != api.OK {
		return data
	}
	s, end := "", 0
	for _, f := range l {
		end = f.To
		field := data[f.From:f.To]
		if !ofAddresses.MatchString(f.Name) {
			s += field
			continue
		}
		other := f.Name + ":" + m.body(f.Body)
		if lines.Content([]byte(other+"\r\n")) != api.OK {
			s += field
			continue
		}
		s += other
		if strings.HasSuffix(field, "\r\n") {
			s += "\r\n"
		}
	}
	return s + data[end:]
}
