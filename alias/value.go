package alias

import (
	"iter"
	"strings"

	"waybill/api"
	"waybill/path"
	"waybill/table"
)

const maxMailboxes = 100 // of one value

func hasRightValues(t *table.Table) bool {
	for k := range t.Len() {
		if _, value, _ := t.At(k); !isRight(value) {
			return false
		}
	}
	return true
}

// isRight tells whether a value may be.
func isRight(value string) bool {
	n := 0
	for piece := range pieces(value) {
		p, code := path.Mailbox(piece)
		if code != api.OK || p.Domain == "" { // the null path has none, either
			return false
		}
		n++
	}
	return n <= maxMailboxes
}

// pieces are what stands between a value's commas, without the blanks about it.
func pieces(value string) iter.Seq[string] {
	return func(yield func(string) bool) {
		for at := 0; at <= len(value); {
			end := at + pieceEnd(value[at:])
			if !yield(strings.Trim(value[at:end], " \t")) {
				return
			}
			at = end + 1
		}
	}
}

// pieceEnd is where the first comma stands that is within no quotes, or else the text's end.
func pieceEnd(s string) int {
	isQuoted := false
	for i := 0; i < len(s); i++ {
		switch c := s[i]; {
		case c == '\\':
			i++ // the byte behind it is no end; out of quotes no mailbox has one
		case c == '"':
			isQuoted = !isQuoted
		case c == ',' && !isQuoted:
			return i
		}
	}
	return len(s)
}
