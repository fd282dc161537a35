package canon_test

import (
	"fmt"
	"strconv"
	"strings"
	"testing"
	"unsafe"

	"waybill/api"
	"waybill/canon"
)

const (
	host  = "mx.example"
	given = "a@x.example b@y.example\n@old.example @new.example\n" // the chapter's table
)

func at(local, domain string) api.Path { return api.Path{Local: local, Domain: domain} }

func atLiteral(local, address string) api.Path {
	return api.Path{Local: local, Domain: address, Literal: true}
}

// rows is a table's text of these lines.
func rows(lines ...string) string { return strings.Join(lines, "\n") + "\n" }

// lined is a content's bytes of these lines.
func lined(lines ...string) string {
	if len(lines) == 0 {
		return ""
	}
	return strings.Join(lines, "\r\n") + "\r\n"
}

func xs(n int) string { return strings.Repeat("x", n) }

// domainOf is a domain of that many bytes, in labels as long as may be.
func domainOf(size int) string {
	var l []string
	for size > 63 {
		take := min(63, size-2)
		l = append(l, strings.Repeat("d", take))
		size -= take + 1
	}
	return strings.Join(append(l, strings.Repeat("e", size)), ".")
}

// made is a Canon of a name and tables that may be.
func made(t *testing.T, hostname string, tables ...string) *canon.Canon {
	t.Helper()
	c, e := canon.New(hostname, tables)
	if c == nil || e != api.OK {
		t.Fatalf("New(%s, %s): %v %v", short(hostname), shown(tables), c, e)
	}
	return c
}

// refuses wants New to tell that error.
func refuses(t *testing.T, want api.Errno, hostname string, tables ...string) {
	t.Helper()
	if c, e := canon.New(hostname, tables); c != nil || e != want {
		t.Errorf("New(%s, %s): %v %v, not %v", short(hostname), shown(tables), c, e, want)
	}
}

// calls wants a mailbox to be called so.
func calls(t *testing.T, c *canon.Canon, p, want api.Path) {
	t.Helper()
	if got := c.Path(p); got != want {
		t.Errorf("Path(%s): %s, not %s", named(p), named(got), named(want))
	}
}

// stays wants mailboxes to be called what they are.
func stays(t *testing.T, c *canon.Canon, l ...api.Path) {
	t.Helper()
	for _, p := range l {
		calls(t, c, p, p)
	}
}

// writes wants a field's body to come out so.
func writes(t *testing.T, c *canon.Canon, body, want string) {
	t.Helper()
	if got := c.Body(body); got != want {
		t.Errorf("Body(%s): %s, not %s", short(body), short(got), short(want))
	}
}

// keeps wants bodies to come out as they are.
func keeps(t *testing.T, c *canon.Canon, bodies ...string) {
	t.Helper()
	for _, body := range bodies {
		writes(t, c, body, body)
	}
}

// turns wants a content to come out so.
func turns(t *testing.T, c *canon.Canon, data, want string) {
	t.Helper()
	b := []byte(data)
	if got := string(c.Message(b)); got != want {
		t.Errorf("Message(%s): %s, not %s", short(data), short(got), short(want))
	}
	if string(b) != data {
		t.Errorf("Message turned %s into %s", short(data), short(string(b)))
	}
}

// leaves wants contents to come out as they are.
func leaves(t *testing.T, c *canon.Canon, contents ...string) {
	t.Helper()
	for _, data := range contents {
		turns(t, c, data, data)
	}
}

// eachByte calls do with each byte as a text.
func eachByte(do func(c byte, s string)) {
	for c := range 256 {
		do(byte(c), string([]byte{byte(c)}))
	}
}

func isOneOf(c byte, those string) bool { return strings.IndexByte(those, c) >= 0 }

// lent is a text whose bytes can be turned behind a call's back.
func lent(s string) (string, []byte) {
	b := []byte(s)
	return unsafe.String(unsafe.SliceData(b), len(b)), b
}

// named is a path as failures tell it.
func named(p api.Path) string {
	s := short(p.Local) + " at " + short(p.Domain)
	if p.Literal {
		s += ", a literal"
	}
	if p.Null {
		s += ", null"
	}
	return s
}

// short keeps what is told of a great text readable.
func short(s string) string {
	if len(s) > 120 {
		return fmt.Sprintf("%q..%q of %d bytes", s[:80], s[len(s)-20:], len(s))
	}
	return strconv.Quote(s)
}

func shown(l []string) string {
	s := ""
	for _, text := range l[:min(len(l), 3)] {
		s += short(text) + " "
	}
	return s + fmt.Sprintf("(%d)", len(l))
}

// dice are numbers that look like chance, the same ones each time.
type dice uint64

func (d *dice) roll(n int) int {
	*d = *d*6364136223846793005 + 1442695040888963407
	return int(uint64(*d>>33) % uint64(n))
}

func (d *dice) one(l []string) string { return l[d.roll(len(l))] }

// row is some of these texts, one behind the other.
func (d *dice) row(most int, l []string) string {
	s := ""
	for range d.roll(most + 1) {
		s += d.one(l)
	}
	return s
}
