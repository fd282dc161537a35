package table

import (
	"slices"
	"strings"

	"waybill/api"
)

const blanks = " \t"

// Parse reads a table's text.
func Parse(text string) (*Table, api.Fault) {
	if len(text) > api.MaxTable {
		return nil, api.Fault{Code: api.ErrTableLong, At: api.MaxTable}
	}
	bad := badByte(text)
	r := reading{keys: map[string]int{}}
	var fault api.Fault
	at := 0
	for _, line := range strings.Split(text, "\n") {
		switch {
		case isPassedOver(line):
		case !isBlank(line[0]):
			if fault = r.end(); fault.Code != api.OK {
				goto wrong
			}
			r.begin(at, line)
		case r.open:
			r.add(line)
		default:
			fault = api.Fault{Code: api.ErrTableForm, At: at}
			goto wrong
		}
		at += len(line) + 1
	}
	if fault = r.end(); fault.Code != api.OK || bad.Code != api.OK {
		goto wrong
	}
	return r.table(), api.Fault{}
wrong:
	return nil, firstOf(bad, fault)
}

// badByte is the first byte that no line may have. It is looked for ahead of the entries: one within an entry counts only if the whole entry has no fault, which stands at its first byte.
func badByte(text string) api.Fault {
	for i := 0; i < len(text); i++ {
		if c := text[i]; c != '\t' && c != '\n' && (c < ' ' || c > '~') {
			return api.Fault{Code: api.ErrTableForm, At: i}
		}
	}
	return api.Fault{}
}

// firstOf is the first by place of two faults, of one place a; at least one of them is a fault.
func firstOf(a, b api.Fault) api.Fault {
	if b.Code == api.OK || a.Code != api.OK && a.At <= b.At {
		return a
	}
	return b
}

func isBlank(c byte) bool { return c == ' ' || c == '\t' }

func isPassedOver(line string) bool {
	rest := strings.TrimLeft(line, blanks)
	return rest == "" || rest[0] == '#'
}

// reading is how far a text was read: the entries that have ended, and, if there was one, the last one, which stays open as later lines may continue it.
type reading struct {
	entries []entry
	keys    map[string]int // how many entries have that key
	open    bool
	start   int
	key     string
	value   []byte
}

// begin opens an entry. Its key and value are the table's own bytes: the text is not kept.
func (r *reading) begin(at int, line string) {
	size := strings.IndexAny(line, blanks)
	if size < 0 {
		size = len(line)
	}
	r.open, r.start, r.key, r.value = true, at, lower(line[:size]), nil
	r.add(line[size:])
}

func (r *reading) add(piece string) {
	piece = strings.Trim(piece, blanks)
	if len(r.value) > 0 {
		r.value = append(r.value, ' ')
	}
	r.value = append(r.value, piece...)
}

// end lays the open entry, if there is one, to those that have ended: no line continues it any more.
func (r *reading) end() api.Fault {
	if !r.open {
		return api.Fault{}
	}
	if code := r.wrong(); code != api.OK {
		return api.Fault{Code: code, At: r.start}
	}
	r.entries = append(r.entries, entry{r.key, string(r.value)})
	r.keys[r.key]++
	return api.Fault{}
}

// wrong is what is wrong with the open entry as a whole.
func (r *reading) wrong() api.Errno {
	switch {
	case len(r.key) > api.MaxKey, len(r.value) == 0, len(r.value) > api.MaxValue:
		return api.ErrTableForm
	case r.keys[r.key] > 0:
		return api.ErrTableTwice
	case len(r.entries) == api.MaxEntries:
		return api.ErrTableMany
	}
	return api.OK
}

func (r *reading) table() *Table {
	slices.SortFunc(r.entries, func(a, b entry) int { return strings.Compare(a.key, b.key) })
	return &Table{r.entries}
}
