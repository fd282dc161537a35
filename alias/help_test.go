package alias_test

import (
	"fmt"
	"slices"
	"strconv"
	"strings"
	"testing"
	"unsafe"

	"waybill/alias"
	"waybill/api"
	"waybill/path"
)

// The chapter's table.
const given = "a@x b@x, c@y\nb@x d@z, a@x\nl@x m@x\nm@x l@x\ns@x s@x, t@x\n@w all@v\n"

var null = api.Path{Null: true}

func at(local, domain string) api.Path { return api.Path{Local: local, Domain: domain} }

func atLiteral(local, address string) api.Path {
	return api.Path{Local: local, Domain: address, Literal: true}
}

// box is the mailbox of a text that is one.
func box(s string) api.Path {
	p, e := path.Mailbox(s)
	if e != api.OK {
		panic(strconv.Quote(s) + " is no mailbox")
	}
	return p
}

func boxes(l ...string) []api.Path {
	var all []api.Path
	for _, s := range l {
		all = append(all, box(s))
	}
	return all
}

// numbered are n mailboxes: k0@x, k1@x.
func numbered(n int, k string) []string {
	var l []string
	for i := range n {
		l = append(l, k+strconv.Itoa(i)+"@x")
	}
	return l
}

// rows is a table's text of these lines.
func rows(lines ...string) string { return strings.Join(lines, "\n") + "\n" }

func xs(n int) string { return strings.Repeat("x", n) }

// domainOf is a domain of that many bytes, in labels as long as may be.
func domainOf(size int) string {
	var l []string
	for size > 63 {
		take := min(63, size-2)
		l = append(l, strings.Repeat("d", take))
		size -= take + 1
	}
	return strings.Join(append(l, strings.Repeat("e", size)), ".")
}

// made is an Alias of tables that may be.
func made(t *testing.T, tables ...string) *alias.Alias {
	t.Helper()
	a, e := alias.New(tables)
	if a == nil || e != api.OK {
		t.Fatalf("New(%s): %v %v", shown(tables), a, e)
	}
	return a
}

// refuses wants New to tell that error.
func refuses(t *testing.T, want api.Errno, tables ...string) {
	t.Helper()
	if a, e := alias.New(tables); a != nil || e != want {
		t.Errorf("New(%s): %v %v, not %v", shown(tables), a, e, want)
	}
}

// around wants a table to be refused wherever it stands among others.
func around(t *testing.T, text string) {
	t.Helper()
	refuses(t, api.ErrAliasForm, text)
	refuses(t, api.ErrAliasForm, text, given)
	refuses(t, api.ErrAliasForm, given, text)
	refuses(t, api.ErrAliasForm, given, text, given)
	refuses(t, api.ErrAliasForm, append(slices.Repeat([]string{given}, 7), text)...)
	refuses(t, api.ErrAliasForm, text, text)
}

// stands wants a mailbox to stand for these at once.
func stands(t *testing.T, a *alias.Alias, p api.Path, want ...api.Path) {
	t.Helper()
	if l, is := a.Direct(p); !is || !slices.Equal(l, want) {
		t.Errorf("Direct(%s): %s %v, not %s", named(p), listed(l), is, listed(want))
	}
}

// standsForNone wants each of these mailboxes to stand for none.
func standsForNone(t *testing.T, a *alias.Alias, l ...api.Path) {
	t.Helper()
	for _, p := range l {
		if got, is := a.Direct(p); is || len(got) > 0 {
			t.Errorf("Direct(%s): %s %v, not none", named(p), listed(got), is)
		}
	}
}

// expands wants a mailbox to stand for these in the end.
func expands(t *testing.T, a *alias.Alias, p api.Path, want ...api.Path) {
	t.Helper()
	if l, e := a.Expand(p); e != api.OK || !slices.Equal(l, want) {
		t.Errorf("Expand(%s): %s %v, not %s", named(p), listed(l), e, listed(want))
	}
}

// fails wants Expand to tell that error of each of these mailboxes.
func fails(t *testing.T, a *alias.Alias, want api.Errno, l ...api.Path) {
	t.Helper()
	for _, p := range l {
		if got, e := a.Expand(p); e != want || len(got) > 0 {
			t.Errorf("Expand(%s): %s %v, not %v", named(p), listed(got), e, want)
		}
	}
}

// isRight tells whether Expand is to refuse a mailbox.
func isRight(p api.Path) bool { return !p.Null && path.Right(p) == api.OK }

// eachByte calls do with each byte as a text.
func eachByte(do func(c byte, s string)) {
	for c := range 256 {
		do(byte(c), string([]byte{byte(c)}))
	}
}

func isOneOf(c byte, those string) bool { return strings.IndexByte(those, c) >= 0 }

// lent is a text whose bytes can be turned behind a call's back.
func lent(s string) (string, []byte) {
	b := []byte(s)
	return unsafe.String(unsafe.SliceData(b), len(b)), b
}

// named is a path as failures tell it.
func named(p api.Path) string {
	s := short(p.Local) + " at " + short(p.Domain)
	if p.Literal {
		s += ", a literal"
	}
	if p.Null {
		s += ", null"
	}
	return s
}

func listed(l []api.Path) string {
	var all []string
	for _, p := range l[:min(len(l), 8)] {
		all = append(all, named(p))
	}
	return fmt.Sprintf("[%s] (%d)", strings.Join(all, "; "), len(l))
}

// short keeps what is told of a great text readable.
func short(s string) string {
	if len(s) > 120 {
		return fmt.Sprintf("%q..%q of %d bytes", s[:80], s[len(s)-20:], len(s))
	}
	return strconv.Quote(s)
}

func shown(l []string) string {
	s := ""
	for _, text := range l[:min(len(l), 3)] {
		s += short(text) + " "
	}
	return s + fmt.Sprintf("(%d)", len(l))
}

// dice are numbers that look like chance, the same ones each time.
type dice uint64

func (d *dice) roll(n int) int {
	*d = *d*6364136223846793005 + 1442695040888963407
	return int(uint64(*d>>33) % uint64(n))
}

func (d *dice) one(l []string) string { return l[d.roll(len(l))] }
