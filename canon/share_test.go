package canon_test

import (
	"bytes"
	"slices"
	"testing"

	"waybill/api"
	"waybill/canon"
)

// TestR3New: what a Canon knows hangs on what was handed in no more, which stays as it is.
func TestR3New(t *testing.T) {
	name, n := lent(host)
	first, a := lent(given)
	second, b := lent("a@z \"q r\"@y\n")
	tables := []string{first, second}
	c, e := canon.New(name, tables[:2:2])
	if e != api.OK || string(n) != host || string(a) != given || !slices.Equal(tables, []string{given, "a@z \"q r\"@y\n"}) {
		t.Fatalf("%v %q %q", e, n, tables)
	}
	clear(n)
	clear(a)
	clear(b)
	clear(tables)
	calls(t, c, postmaster, at("postmaster", host))
	calls(t, c, at("a", "x.example"), at("b", "y.example"))
	calls(t, c, at("c", "old.example"), at("c", "new.example"))
	calls(t, c, at("a", "z"), at("q r", "y"))
}

// TestR3Path: what is told shares nothing with what was asked, whichever way it came to be.
func TestR3Path(t *testing.T) {
	c := made(t, host, given)
	for _, x := range [][2]api.Path{
		{at("c", "old.example"), at("c", "new.example")},
		{at("a", "x.example"), at("b", "y.example")},
		{at("c", "x.example"), at("c", "x.example")},
		{postmaster, at("postmaster", host)},
		{at("c", ""), at("c", "")},
		{at("c", "X"), at("c", "X")},
		{atLiteral("c", "10.0.0.1"), atLiteral("c", "10.0.0.1")},
		{{Null: true, Local: "c", Domain: "x"}, {Null: true, Local: "c", Domain: "x"}},
	} {
		local, l := lent(x[0].Local)
		domain, d := lent(x[0].Domain)
		p := x[0]
		p.Local, p.Domain = local, domain
		got := c.Path(p)
		if string(l) != x[0].Local || string(d) != x[0].Domain {
			t.Errorf("%s was turned into %q %q", named(x[0]), l, d)
		}
		clear(l)
		clear(d)
		if got != x[1] {
			t.Errorf("Path(%s): %s, not %s", named(x[0]), named(got), named(x[1]))
		}
	}
}

func TestR3Body(t *testing.T) {
	c := made(t, host, given)
	for s, want := range map[string]string{
		" J <a@x.example> (x), \"c d\"@old.example": " J <b@y.example> (x), \"c d\"@new.example",
		"\"C\"@Z": "\"C\"@Z",
		"no list": "no list",
		" ":       " ",
	} {
		text, b := lent(s)
		got := c.Body(text)
		if string(b) != s {
			t.Errorf("%q was turned into %q", s, b)
		}
		clear(b)
		if got != want {
			t.Errorf("Body(%q): %q, not %q", s, got, want)
		}
	}
}

// TestR3Message: a content is neither changed nor kept nor told itself, nor is what lies behind it.
func TestR3Message(t *testing.T) {
	c := made(t, host, given)
	for _, s := range []string{
		"To: a@x.example\r\nS: x\r\n\r\nbody\r\n", "To: p@z\r\n\r\nbody", "S: x\r\n", "no field", "To: a@x.example", "To: a@x.example\x00\r\n",
		string(bytes.Repeat([]byte("To: a@x.example\r\n"), 1001)),
	} {
		spare := make([]byte, len(s), len(s)+100)
		copy(spare, s)
		full := bytes.Clone(spare[:cap(spare)])
		first, second := c.Message(spare), c.Message(spare)
		want := string(second)
		if !bytes.Equal(spare[:cap(spare)], full) {
			t.Errorf("%s was turned into %s", short(s), short(string(spare)))
		}
		clear(first[:cap(first)])
		if string(second) != want || !bytes.Equal(spare[:cap(spare)], full) {
			t.Errorf("%s: what was told is shared", short(s))
		}
		clear(spare[:cap(spare)])
		if string(second) != want {
			t.Errorf("%s: what was told is shared with it", short(s))
		}
		clear(second)
		turns(t, c, s, want)
	}
}

// TestR2None: nil and empty are the same.
func TestR2None(t *testing.T) {
	for _, none := range [][]string{nil, {}, {""}} {
		c := made(t, host, none...)
		calls(t, c, postmaster, at("postmaster", host))
		for _, data := range [][]byte{nil, {}, make([]byte, 0, 10)} {
			if b := c.Message(data); len(b) != 0 {
				t.Errorf("%q", b)
			}
		}
		writes(t, c, "", "")
		refuses(t, api.ErrArg, "", none...)
	}
}

// TestR4Apart: several hang on one another in nothing, and what one was asked turns no later answer.
func TestR4Apart(t *testing.T) {
	c, d := made(t, host, given), made(t, "other.example", "a@x.example q@z\n")
	for range 3 {
		turns(t, c, "To: a@x.example, C@old.example\r\n", "To: b@y.example, C@new.example\r\n")
		turns(t, d, "To: a@x.example, C@old.example\r\n", "To: q@z, C@old.example\r\n")
		calls(t, c, postmaster, at("postmaster", host))
		calls(t, d, postmaster, at("postmaster", "other.example"))
		leaves(t, c, "To: \x00\r\n", "To: a@x.example\x00")
	}
}
