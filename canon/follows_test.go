package canon_test

import (
	"slices"
	"strings"
	"testing"

	"waybill/api"
	"waybill/canon"
	"waybill/header"
	"waybill/lines"
	"waybill/path"
)

// follow wants what P15.5 says of a content and what comes of it.
func follow(t *testing.T, c *canon.Canon, data string) {
	t.Helper()
	got := string(c.Message([]byte(data)))
	old, from, code := header.Split([]byte(data))
	if code != api.OK {
		if got != data {
			t.Fatalf("Message(%s): %s", short(data), short(got))
		}
		return
	}
	made, to, code := header.Split([]byte(got))
	if code != api.OK && len(got) <= 65536 || code == api.OK && (len(made) != len(old) || got[to:] != data[from:]) {
		t.Fatalf("Message(%s): %s: %d fields, %v", short(data), short(got), len(made), code)
	}
	for i, f := range made {
		if f.Name != old[i].Name || !slices.ContainsFunc(twelve, func(name string) bool { return header.Same(name, f.Name) }) && got[f.From:f.To] != data[old[i].From:old[i].To] {
			t.Fatalf("Message(%s): %s: %+v, not %+v", short(data), short(got), f, old[i])
		}
	}
	if lines.Content([]byte(data)) == api.OK && lines.Content([]byte(got)) != api.OK {
		t.Fatalf("Message(%s): %s is no content", short(data), short(got))
	}
}

// isSettled tells whether no value's mailbox is changed: none by its own key, and none that an @ and a domain can make.
func isSettled(m model) bool {
	for _, l := range m.tables {
		for _, x := range l {
			if x.value[0] != '@' {
				p, _ := path.Mailbox(x.value)
				if m.path(p) != p {
					return false
				}
				continue
			}
			domain := lowered(x.value)
			for _, other := range m.tables {
				if slices.ContainsFunc(other, func(y entry) bool { return strings.HasSuffix(y.key, domain) }) {
					return false
				}
			}
		}
	}
	return true
}

func TestP15_5Names(t *testing.T) {
	c := made(t, host, given)
	var all []string
	for _, name := range append(slices.Clone(others), twelve...) {
		all = append(all, name+": a@x.example, \"c\"@old.example\r\n (a@x.example)")
	}
	for i := range all {
		data := lined(append(append(slices.Clone(all[i:]), all[:i]...), "", "To: a@x.example")...)
		follow(t, c, data)
		got := string(c.Message([]byte(data)))
		if n := strings.Count(got, ": b@y.example, c@new.example\r\n (a@x.example)\r\n"); n != len(twelve) {
			t.Errorf("%d fields were turned", n)
		}
	}
}

// TestP15_5Twice: what no value's mailbox is called another thing by is called the same when it is asked again.
func TestP15_5Twice(t *testing.T) {
	for _, tables := range [][]string{nil, {given}, {"a@x b@y", "@z @y", "c@z d@w"}, {"@mx.example joe@y"}, {"@x @" + domainOf(252)}, {"a@x a@x", "@y @w"}, {"@old a@[10.0.0.1]", "@10.0.0.1 @y"}} {
		c := made(t, host, tables...)
		for _, local := range []string{"a", "b", "c", "d", "A", "postmaster", "a b", strings.Repeat("l", 64)} {
			for _, domain := range []string{"", "x", "y", "z", "w", "old", "10.0.0.1", host, "x.example", "y.example", "old.example", "new.example", "X", domainOf(189), domainOf(252)} {
				p := c.Path(at(local, domain))
				stays(t, c, p)
			}
		}
		stays(t, c, c.Path(null), c.Path(atLiteral("a", "10.0.0.1")))
	}
	c := made(t, host, "@x @y", "@y @x") // values' mailboxes are changed
	if p := at("a", "x"); c.Path(c.Path(p)) == c.Path(p) {
		t.Error(named(c.Path(p)))
	}
}

func TestP15_5Content(t *testing.T) {
	c := made(t, host, lengthy, given)
	for size := 960; size <= 998; size++ {
		for _, address := range []string{"l@x", "a@x.example", "l.l.l.l@shorter.example"} {
			line := "To: (" + xs(size-6-len(address)) + ")" + address
			for _, data := range []string{lined(line), lined(line, " "+address), lined("S: x", "To: "+address+",", "\t("+xs(size-3-len(address))+")"+address, "", line)} {
				if e := lines.Content([]byte(data)); e != api.OK {
					t.Fatal(short(data), e)
				}
				follow(t, c, data)
			}
		}
	}
}
