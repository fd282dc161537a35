package config

import (
	"strings"

	"waybill/api"
)

const blanks = " \t"

// entry is what a text says of a parameter: where its first byte stands, the name, whether a = stands behind that, the value.
type entry struct {
	start   int
	name    string
	isGiven bool
	value   []byte
}

// entriesOf are a text's entries, whatever they say, and what is wrong with the text beside them.
func entriesOf(text string) ([]entry, api.Fault) {
	var l []entry
	fault := badByte(text)
	at := 0
	for line := range strings.SplitSeq(text, "\n") {
		switch {
		case isPassedOver(line):
		case !isBlank(line[0]):
			l = append(l, begun(at, line))
		case len(l) > 0:
			l[len(l)-1].add(line)
		default:
			fault = firstOf(fault, api.Fault{Code: api.ErrConfigForm, At: at})
		}
		at += len(line) + 1
	}
	return l, fault
}

// badByte is the first byte that no line may have.
func badByte(text string) api.Fault {
	for i := 0; i < len(text); i++ {
		if c := text[i]; c != '\t' && c != '\n' && (c < ' ' || c > '~') {
			return api.Fault{Code: api.ErrConfigForm, At: i}
		}
	}
	return api.Fault{}
}

// firstOf is the first by place of what may be two faults, of one place a.
func firstOf(a, b api.Fault) api.Fault {
	if b.Code == api.OK || a.Code != api.OK && a.At <= b.At {
		return a
	}
	return b
}

func isBlank(c byte) bool { return c == ' ' || c == '\t' }

func isPassedOver(line string) bool {
	rest := strings.TrimLeft(line, blanks)
	return rest == "" || rest[0] == '#'
}

// begun is the entry that a line begins. The = must stand on that line: its end is no blank.
func begun(at int, line string) entry {
	size := strings.IndexAny(line, blanks+"=")
	if size < 0 {
		size = len(line)
	}
	value, isGiven := strings.CutPrefix(strings.TrimLeft(line[size:], blanks), "=")
	e := entry{start: at, name: line[:size], isGiven: isGiven}
	e.add(value)
	return e
}

func (e *entry) add(piece string) {
	piece = strings.Trim(piece, blanks)
	if len(e.value) > 0 {
		e.value = append(e.value, ' ')
	}
	e.value = append(e.value, piece...)
}
