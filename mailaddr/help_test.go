package mailaddr_test

import (
	"fmt"
	"slices"
	"strconv"
	"strings"
	"testing"

	"waybill/api"
	"waybill/mailaddr"
)

func at(local, domain string) api.Path { return api.Path{Local: local, Domain: domain} }

func atLiteral(local, address string) api.Path {
	return api.Path{Local: local, Domain: address, Literal: true}
}

// addr is an address that stands from a byte up to another one.
func addr(p api.Path, from, to int, name string) api.MailAddr {
	return api.MailAddr{Path: p, From: from, To: to, Name: name}
}

// domainOf is a domain of that many bytes, in labels as long as may be.
func domainOf(size int) string {
	var l []string
	for size > 63 {
		take := min(63, size-2)
		l = append(l, strings.Repeat("d", take))
		size -= take + 1
	}
	return strings.Join(append(l, strings.Repeat("e", size)), ".")
}

func pathsOf(l []api.MailAddr) []api.Path {
	var paths []api.Path
	for _, a := range l {
		paths = append(paths, a.Path)
	}
	return paths
}

func namesOf(l []api.MailAddr) []string {
	var names []string
	for _, a := range l {
		names = append(names, a.Name)
	}
	return names
}

// parses wants a body to be a list of just these addresses, and what follows of it.
func parses(t *testing.T, body string, want ...api.MailAddr) {
	t.Helper()
	l, e := mailaddr.Parse(body)
	if !slices.Equal(l, want) || e != api.OK {
		t.Errorf("Parse(%s): %+v %v, not %+v", short(body), l, e, want)
		return
	}
	for _, a := range l {
		if one, e := mailaddr.Parse(body[a.From:a.To]); len(one) != 1 || e != api.OK || one[0] != addr(a.Path, 0, a.To-a.From, "") {
			t.Errorf("Parse(%s): %+v %v, not %+v alone", short(body[a.From:a.To]), one, e, a.Path)
		}
	}
	itself(t, body, l)
}

// itself wants that Replace by the addresses that stand in a body leaves them as they are.
func itself(t *testing.T, body string, l []api.MailAddr) {
	t.Helper()
	s, e := mailaddr.Replace(body, pathsOf(l))
	if e != api.OK {
		t.Errorf("Replace(%s) by its own: %v", short(body), e)
		return
	}
	again, e := mailaddr.Parse(s)
	if !slices.Equal(pathsOf(again), pathsOf(l)) || !slices.Equal(namesOf(again), namesOf(l)) || e != api.OK {
		t.Errorf("Parse(%s): %+v %v, not %+v", short(s), again, e, l)
	}
}

// has wants a body to be a list of just these paths.
func has(t *testing.T, body string, want ...api.Path) {
	t.Helper()
	if l, e := mailaddr.Parse(body); !slices.Equal(pathsOf(l), want) || e != api.OK {
		t.Errorf("Parse(%s): %+v %v, not %+v", short(body), l, e, want)
	}
}

// is wants a body to be one address and nothing beside it.
func is(t *testing.T, body string, want api.Path) {
	t.Helper()
	parses(t, body, addr(want, 0, len(body), ""))
}

// names wants a body to be one address of that name.
func names(t *testing.T, body, want string) {
	t.Helper()
	if l, e := mailaddr.Parse(body); len(l) != 1 || l[0].Name != want || e != api.OK {
		t.Errorf("Parse(%s): %+v %v, not %s", short(body), l, e, short(want))
	}
}

// noList wants bodies to be refused so by Parse, and by Replace whatever is to be laid there.
func noList(t *testing.T, want api.Errno, bodies ...string) {
	t.Helper()
	for _, body := range bodies {
		if l, e := mailaddr.Parse(body); len(l) != 0 || e != want {
			t.Errorf("Parse(%s): %+v %v, not %v", short(body), l, e, want)
		}
		noReplace(t, want, body)
		noReplace(t, want, body, at("a", "b"))
		noReplace(t, want, body, api.Path{Null: true}, at("", ""))
	}
}

func noForm(t *testing.T, bodies ...string) {
	t.Helper()
	noList(t, api.ErrMailForm, bodies...)
}

func replaces(t *testing.T, body, want string, l ...api.Path) {
	t.Helper()
	if s, e := mailaddr.Replace(body, l); s != want || e != api.OK {
		t.Errorf("Replace(%s, %+v): %s %v, not %s", short(body), l, short(s), e, short(want))
	}
}

func noReplace(t *testing.T, want api.Errno, body string, l ...api.Path) {
	t.Helper()
	if s, e := mailaddr.Replace(body, l); s != "" || e != want {
		t.Errorf("Replace(%s, %+v): %s %v, not %v", short(body), l, short(s), e, want)
	}
}

// lists wants paths to be written so, and to be read as these.
func lists(t *testing.T, want string, l ...api.Path) {
	t.Helper()
	if s, e := mailaddr.List(l); s != want || e != api.OK {
		t.Errorf("List(%+v): %s %v, not %s", l, short(s), e, short(want))
	}
	has(t, want, l...)
}

func noLists(t *testing.T, want api.Errno, l ...api.Path) {
	t.Helper()
	if s, e := mailaddr.List(l); s != "" || e != want {
		t.Errorf("List(%+v): %s %v, not %v", l, short(s), e, want)
	}
}

// eachByte calls do with each byte as a text.
func eachByte(do func(c byte, s string)) {
	for c := range 256 {
		do(byte(c), string([]byte{byte(c)}))
	}
}

func isOneOf(c byte, those string) bool { return strings.IndexByte(those, c) >= 0 }

const (
	ofLabel = "abcdefghijklmnopqrstuvwxyzABCDEFGHIJKLMNOPQRSTUVWXYZ0123456789"
	ofAtom  = ofLabel + "!#$%&'*+-/=?^_`{|}~"
	blanks  = " \t\r\n"
)

// short keeps what is told of a great text readable.
func short(s string) string {
	if len(s) > 80 {
		return fmt.Sprintf("%q.. of %d bytes", s[:80], len(s))
	}
	return strconv.Quote(s)
}

// dice are numbers that look like chance, the same ones each time.
type dice uint64

func (d *dice) roll(n int) int {
	*d = *d*6364136223846793005 + 1442695040888963407
	return int(uint64(*d>>33) % uint64(n))
}

func (d *dice) one(l []string) string { return l[d.roll(len(l))] }
