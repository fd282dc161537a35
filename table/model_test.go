package table_test

import (
	"slices"
	"strings"
	"testing"

	"waybill/api"
	"waybill/table"
)

// said is an entry as its lines say it, with no look at what may be.
type said struct {
	at         int
	key, value string
}

// entriesOf are the entries of a text, and where the lines stand that continue none, as the chapter's words say it.
func entriesOf(text string) ([]said, []int) {
	var l []said
	var none []int
	at := 0
	for _, line := range strings.Split(text, "\n") {
		bare := bareOf(line)
		switch {
		case bare == "" || bare[0] == '#':
		case line[0] != ' ' && line[0] != '\t':
			key := line
			if i := slices.IndexFunc([]byte(line), func(c byte) bool { return c == ' ' || c == '\t' }); i >= 0 {
				key = line[:i]
			}
			l = append(l, said{at, lowered(key), bareOf(line[len(key):])})
		case len(l) == 0:
			none = append(none, at)
		case l[len(l)-1].value == "":
			l[len(l)-1].value = bare
		default:
			l[len(l)-1].value += " " + bare
		}
		at += len(line) + 1
	}
	return l, none
}

func bareOf(s string) string {
	for s != "" && strings.Contains(" \t", s[:1]) {
		s = s[1:]
	}
	for s != "" && strings.Contains(" \t", s[len(s)-1:]) {
		s = s[:len(s)-1]
	}
	return s
}

func lowered(s string) string {
	const upper, lower = "ABCDEFGHIJKLMNOPQRSTUVWXYZ", "abcdefghijklmnopqrstuvwxyz"
	b := []byte(s)
	for i, c := range b {
		if k := strings.IndexByte(upper, c); k >= 0 {
			b[i] = lower[k]
		}
	}
	return string(b)
}

// wanted is the fault of a text: all that is wrong with it is listed in the chapter's order, and the first by place is picked.
func wanted(text string) api.Fault {
	if len(text) > 262144 {
		return api.Fault{Code: api.ErrTableLong, At: 262144}
	}
	var faults []api.Fault
	add := func(is bool, code api.Errno, at int) {
		if is {
			faults = append(faults, api.Fault{Code: code, At: at})
		}
	}
	for at, c := range []byte(text) {
		add(c != 9 && c != 10 && (c < 32 || c > 126), api.ErrTableForm, at)
	}
	l, none := entriesOf(text)
	for _, at := range none {
		add(true, api.ErrTableForm, at)
	}
	for i, x := range l {
		add(len(x.key) > 320 || x.value == "" || len(x.value) > 1000, api.ErrTableForm, x.at)
		add(slices.ContainsFunc(l[:i], func(y said) bool { return y.key == x.key }), api.ErrTableTwice, x.at)
		add(i == 2000, api.ErrTableMany, x.at)
	}
	slices.SortStableFunc(faults, func(a, b api.Fault) int { return a.At - b.At })
	if len(faults) == 0 {
		return api.Fault{}
	}
	return faults[0]
}

// modelTable is the entries of a text without a fault.
type modelTable []said

func (m modelTable) Exact(key string) (string, bool) {
	for _, x := range m {
		if x.key == lowered(key) {
			return x.value, true
		}
	}
	return "", false
}

func (m modelTable) Address(local, domain string) (string, bool) {
	if value, is := m.Exact(local + "@" + domain); is {
		return value, true
	}
	return m.Exact("@" + domain)
}

func (m modelTable) Domain(domain string) (string, bool) {
	if value, is := m.Exact(domain); is {
		return value, true
	}
	for at, c := range []byte(domain) {
		if at > 0 && c == '.' {
			if value, is := m.Exact(domain[at:]); is {
				return value, true
			}
		}
	}
	return "", false
}

// modelChain is tables, asked one behind the other.
type modelChain []modelTable

func (m modelChain) Exact(key string) (string, bool) {
	for _, x := range m {
		if value, is := x.Exact(key); is {
			return value, true
		}
	}
	return "", false
}

func (m modelChain) Address(local, domain string) (string, bool) {
	for _, x := range m {
		if value, is := x.Address(local, domain); is {
			return value, true
		}
	}
	return "", false
}

func (m modelChain) Domain(domain string) (string, bool) {
	for _, x := range m {
		if value, is := x.Domain(domain); is {
			return value, true
		}
	}
	return "", false
}

// sameText holds a text's table against its model.
func sameText(t *testing.T, text string) *table.Table {
	t.Helper()
	x, f := table.Parse(text)
	want := wanted(text)
	if f != want || (x == nil) != (want.Code != api.OK) {
		t.Fatalf("Parse(%q): %v, not %v", text, f, want)
	}
	if x == nil {
		return nil
	}
	l, _ := entriesOf(text)
	slices.SortFunc(l, func(a, b said) int { return strings.Compare(a.key, b.key) })
	var pairs []pair
	for _, y := range l {
		pairs = append(pairs, pair{y.key, y.value})
	}
	has(t, x, text, pairs...)
	return x
}

func sameAnswers(t *testing.T, got, want asker, local, name string) {
	t.Helper()
	value, is := want.Exact(name)
	exact(t, got, name, value)
	if is != (value != "") {
		t.Fatal("the model has an empty value")
	}
	value, _ = want.Domain(name)
	domain(t, got, name, value)
	value, _ = want.Address(local, name)
	address(t, got, local, name, value)
}

// TestModelFaults plays pieces of texts by chance, most of which have faults.
func TestModelFaults(t *testing.T) {
	pieces := []string{"a", "b", "A", "a", "b", " ", " ", "\t", "\n", "\n", "\n", "\n ", "\n\t", "#", "\n#", "\xc8", "\r", "c d\n", "e f\n", "g h\n", letters(320), letters(998), "k " + letters(997)}
	d := dice(1)
	right := 0
	for range 60000 {
		var b strings.Builder
		for range d.roll(14) {
			b.WriteString(d.one(pieces))
		}
		if sameText(t, b.String()) != nil {
			right++
		}
	}
	if right < 5000 {
		t.Error("of so few texts there is a table:", right)
	}
}

// TestModelAnswers plays tables by chance, and asks them and chains of them.
func TestModelAnswers(t *testing.T) {
	parts := []string{"a", "B", "c", ".", ".", "@", "x"}
	word := func(d *dice) string {
		var b strings.Builder
		for range d.roll(6) {
			b.WriteString(d.one(parts))
		}
		return b.String()
	}
	d := dice(2)
	for range 1500 {
		var tables []*table.Table
		var models modelChain
		for range d.roll(4) {
			var b strings.Builder
			for i := range d.roll(40) {
				if key := word(&d); key != "" && key[0] != '#' {
					b.WriteString(key + " " + d.one(parts) + string(rune('0'+i)) + "\n")
				}
			}
			text := b.String()
			for wanted(text).Code == api.ErrTableTwice { // the entries ahead of it stay
				text = text[:wanted(text).At]
			}
			l, _ := entriesOf(text)
			tables = append(tables, sameText(t, text), nil)
			models = append(models, modelTable(l))
		}
		c := table.Join(tables)
		for range 40 {
			local, name := word(&d), word(&d)
			sameAnswers(t, c, models, local, name)
			for i, m := range models {
				sameAnswers(t, tables[2*i], m, local, name)
			}
		}
		if t.Failed() {
			t.FailNow()
		}
	}
}

func FuzzParse(f *testing.F) {
	for _, text := range []string{"", " a b", "a b\nA c", "a\n b\n# x\n\tc", "a b\xc8", "k " + letters(1001), letters(321) + " x", "#\xc8\n b"} {
		f.Add(text)
	}
	f.Fuzz(func(t *testing.T, text string) { sameText(t, text) })
}
