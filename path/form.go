package path

import (
	"strings"

	"waybill/api"
)

// isLong tells whether a path that may be is too long.
func isLong(p api.Path) bool {
	return len(localForm(p.Local)) > api.MaxLocal || len(p.Domain) > api.MaxDomain || len("<"+formOf(p)+">") > api.MaxPath
}

// formOf is a path's form; of one that may not be, some text that is not taken as it.
func formOf(p api.Path) string {
	switch {
	case p.Null:
		return ""
	case p.Domain == "":
		return localForm(p.Local)
	case p.Literal:
		return localForm(p.Local) + "@" + literalForm(p.Domain)
	}
	return localForm(p.Local) + "@" + p.Domain
}

func localForm(local string) string {
	r := reader{s: local}
	if form, is := r.atoms(); is && r.at == len(local) {
		return form
	}
	return `"` + strings.NewReplacer(`"`, `\"`, `\`, `\\`).Replace(local) + `"`
}

func literalForm(address string) string {
	if strings.Contains(address, ":") {
		return "[" + sixMark + address + "]"
	}
	return "[" + address + "]"
}
