package table_test

import (
	"fmt"
	"strconv"
	"strings"
	"testing"

	"waybill/api"
	"waybill/table"
)

// pair is an entry that a test wants.
type pair struct{ key, value string }

// parsed is the table of a text without a fault.
func parsed(t *testing.T, text string) *table.Table {
	t.Helper()
	x, f := table.Parse(text)
	if x == nil || f != (api.Fault{}) {
		t.Fatalf("Parse(%s): %v %v", short(text), x, f)
	}
	return x
}

// reads wants a text to have these entries, by rising keys.
func reads(t *testing.T, text string, want ...pair) *table.Table {
	t.Helper()
	x := parsed(t, text)
	has(t, x, short(text), want...)
	return x
}

func has(t *testing.T, x *table.Table, what string, want ...pair) {
	t.Helper()
	if n := x.Len(); n != len(want) {
		t.Errorf("%s: %d entries, not %d", what, n, len(want))
	}
	for i, w := range want {
		if key, value, is := x.At(i); key != w.key || value != w.value || !is {
			t.Errorf("%s: At(%d): %s %s %v, not %s %s", what, i, short(key), short(value), is, short(w.key), short(w.value))
		}
		if value, is := x.Exact(w.key); value != w.value || !is {
			t.Errorf("%s: Exact(%s): %s %v, not %s", what, short(w.key), short(value), is, short(w.value))
		}
	}
	for _, k := range []int{-1, len(want)} {
		if key, value, is := x.At(k); key != "" || value != "" || is {
			t.Errorf("%s: At(%d): %s %s %v", what, k, short(key), short(value), is)
		}
	}
}

// refuses wants a text to have that fault.
func refuses(t *testing.T, text string, code api.Errno, at int) {
	t.Helper()
	if x, f := table.Parse(text); x != nil || f != (api.Fault{Code: code, At: at}) {
		t.Errorf("Parse(%s): %v %v, not %v at %d", short(text), x, f, code, at)
	}
}

// asker is a Table or a Chain.
type asker interface {
	Exact(key string) (string, bool)
	Address(local, domain string) (string, bool)
	Domain(domain string) (string, bool)
}

// finds wants a question to be answered by a value, or by none, if want is empty.
func finds(t *testing.T, what string, value string, is bool, want string) {
	t.Helper()
	if value != want || is != (want != "") {
		t.Errorf("%s: %s %v, not %s", what, short(value), is, short(want))
	}
}

func exact(t *testing.T, a asker, key, want string) {
	t.Helper()
	value, is := a.Exact(key)
	finds(t, "Exact("+short(key)+")", value, is, want)
}

func address(t *testing.T, a asker, local, domain, want string) {
	t.Helper()
	value, is := a.Address(local, domain)
	finds(t, "Address("+short(local)+", "+short(domain)+")", value, is, want)
}

func domain(t *testing.T, a asker, name, want string) {
	t.Helper()
	value, is := a.Domain(name)
	finds(t, "Domain("+short(name)+")", value, is, want)
}

// short keeps what is told of a great text readable.
func short(s string) string {
	if len(s) > 60 {
		return fmt.Sprintf("%q.. of %d bytes", s[:60], len(s))
	}
	return strconv.Quote(s)
}

// letters are so many bytes that a key or a value may have, no blank among them.
func letters(n int) string { return strings.Repeat("v", n) }

// numbered are so many entries, each on a line.
func numbered(n int) string {
	var b strings.Builder
	for i := range n {
		fmt.Fprintf(&b, "k%04d v%d\n", i, i)
	}
	return b.String()
}

// join puts lines together, each with its end.
func join(lines ...string) string { return strings.Join(lines, "\n") + "\n" }

// dice are numbers that look like chance, the same ones each time.
type dice uint64

func (d *dice) roll(n int) int {
	*d = *d*6364136223846793005 + 1442695040888963407
	return int(uint64(*d>>33) % uint64(n))
}

func (d *dice) one(l []string) string { return l[d.roll(len(l))] }
