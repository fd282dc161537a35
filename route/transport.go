package route

import (
	"strings"

	"waybill/api"
	"waybill/path"
	"waybill/table"
)

// The transports.
const (
	local   = "local"
	smtp    = "smtp"
	discard = "discard"
	refusal = "error"
)

const mostReason = 400 // bytes of why a message does not go on

func hasRightValues(t *table.Table) bool {
	for k := range t.Len() {
		_, value, _ := t.At(k)
		if _, is := hopOf(value, ""); !is {
			return false
		}
	}
	return true
}

// hopOf is where a value sends a message to a mailbox of that domain, if the value may be.
func hopOf(value, domain string) (api.Hop, bool) {
	transport, behind, isCut := strings.Cut(value, ":")
	nextOf, is := transports(domain)[transport]
	if !isCut || !is {
		return api.Hop{}, false
	}
	next, is := nextOf(behind)
	if !is {
		return api.Hop{}, false
	}
	return api.Hop{Transport: transport, Next: next}, true
}

// transports are all of them, each as what it makes of the text behind its colon: the Next of a message to a mailbox of that domain; false, if that text may not stand there.
func transports(domain string) map[string]func(behind string) (string, bool) {
	toNobody := func(behind string) (string, bool) { return "", behind == "" }
	return map[string]func(behind string) (string, bool){
		local:   toNobody,
		discard: toNobody,
		smtp: func(behind string) (string, bool) {
			if behind == "" {
				return domain, true
			}
			host, isLiteral, code := path.Domain(behind)
			return hostForm(host, isLiteral), code == api.OK
		},
		refusal: func(behind string) (string, bool) {
			return behind, behind != "" && len(behind) <= mostReason
		},
	}
}

// hostForm is the form of a domain, or of a literal's address.
func hostForm(domain string, isLiteral bool) string {
	switch {
	case !isLiteral:
		return domain
	case strings.Contains(domain, ":"):
		return "[IPv6:" + domain + "]"
	}
	return "[" + domain + "]"
}
