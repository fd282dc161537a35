package path_test

import (
	"fmt"
	"slices"
	"strconv"
	"strings"
	"testing"

	"waybill/api"
	"waybill/path"
)

var null = api.Path{Null: true}

func at(local, domain string) api.Path { return api.Path{Local: local, Domain: domain} }

func atLiteral(local, address string) api.Path {
	return api.Path{Local: local, Domain: address, Literal: true}
}

// domainOf is a domain of that many bytes, in labels as long as may be.
func domainOf(size int) string {
	var l []string
	for size > 63 {
		take := min(63, size-2)
		l = append(l, strings.Repeat("d", take))
		size -= take + 1
	}
	return strings.Join(append(l, strings.Repeat("e", size)), ".")
}

// parses wants a text to be a path, all of it, and the same with anything behind.
func parses(t *testing.T, s string, want api.Path) {
	t.Helper()
	for _, behind := range []string{"", " ", ">", " SIZE=1", "<>", "@", "x", "\x00", "\xff"} {
		if p, n, e := path.Parse(s + behind); p != want || n != len(s) || e != api.OK {
			t.Errorf("Parse(%s, %q behind): %+v %d %v, not %+v", short(s), behind, p, n, e, want)
		}
	}
}

func noPath(t *testing.T, want api.Errno, l ...string) {
	t.Helper()
	for _, s := range l {
		if p, n, e := path.Parse(s); p != (api.Path{}) || n != 0 || e != want {
			t.Errorf("Parse(%s): %+v %d %v, not %v", short(s), p, n, e, want)
		}
	}
}

// boxes wants a text to be a mailbox, also in a path.
func boxes(t *testing.T, s string, want api.Path) {
	t.Helper()
	isBox(t, s, want)
	parses(t, "<"+s+">", want)
	parses(t, "<@x.org:"+s+">", want)
}

func isBox(t *testing.T, s string, want api.Path) {
	t.Helper()
	if p, e := path.Mailbox(s); p != want || e != api.OK {
		t.Errorf("Mailbox(%s): %+v %v, not %+v", short(s), p, e, want)
	}
	if e := path.Right(want); e != api.OK {
		t.Errorf("Right(%+v): %v", want, e)
	}
}

// noBox wants texts to be no mailboxes, also in a path.
func noBox(t *testing.T, want api.Errno, l ...string) {
	t.Helper()
	for _, s := range l {
		if p, e := path.Mailbox(s); p != (api.Path{}) || e != want {
			t.Errorf("Mailbox(%s): %+v %v, not %v", short(s), p, e, want)
		}
		noPath(t, want, "<@x.org:"+s+">")
		if !strings.HasPrefix(s, ">") { // <> is a path, whatever stands behind it
			noPath(t, want, "<"+s+">", "<"+s+"> x")
		}
	}
}

// shows wants a path to be right, to have that form, and this to be read as it.
func shows(t *testing.T, p api.Path, want string) {
	t.Helper()
	if e := path.Right(p); e != api.OK {
		t.Errorf("Right(%+v): %v", p, e)
	}
	if s, e := path.Show(p); s != want || e != api.OK {
		t.Errorf("Show(%+v): %s %v, not %s", p, short(s), e, short(want))
	}
	if s, e := path.Angle(p); s != "<"+want+">" || e != api.OK {
		t.Errorf("Angle(%+v): %s %v, not <%s>", p, short(s), e, want)
	}
	isBox(t, want, p)
	parses(t, "<"+want+">", p)
}

// notRight wants paths to be refused so by Right, Show and Angle.
func notRight(t *testing.T, want api.Errno, l ...api.Path) {
	t.Helper()
	for _, p := range l {
		if e := path.Right(p); e != want {
			t.Errorf("Right(%+v): %v, not %v", p, e, want)
		}
		if s, e := path.Show(p); s != "" || e != want {
			t.Errorf("Show(%+v): %s %v, not %v", p, short(s), e, want)
		}
		if s, e := path.Angle(p); s != "" || e != want {
			t.Errorf("Angle(%+v): %s %v, not %v", p, short(s), e, want)
		}
	}
}

// isDomain wants a text to be a domain, or a literal, alone and in a mailbox.
func isDomain(t *testing.T, s, want string, isLiteral bool) {
	t.Helper()
	if d, is, e := path.Domain(s); d != want || is != isLiteral || e != api.OK {
		t.Errorf("Domain(%s): %s %v %v, not %s %v", short(s), short(d), is, e, short(want), isLiteral)
	}
	if len(s) < 200 {
		boxes(t, "a@"+s, api.Path{Local: "a", Domain: want, Literal: isLiteral})
	}
}

// noDomain wants texts to be neither, alone and in a mailbox.
func noDomain(t *testing.T, want api.Errno, l ...string) {
	t.Helper()
	for _, s := range l {
		if d, is, e := path.Domain(s); d != "" || is || e != want {
			t.Errorf("Domain(%s): %s %v %v, not %v", short(s), short(d), is, e, want)
		}
		noBox(t, want, "a@"+s)
	}
}

func params(t *testing.T, s string, want ...api.Param) {
	t.Helper()
	if l, e := path.Params(s); !slices.Equal(l, want) || e != api.OK {
		t.Errorf("Params(%s): %+v %v, not %+v", short(s), l, e, want)
	}
}

func noParams(t *testing.T, want api.Errno, l ...string) {
	t.Helper()
	for _, s := range l {
		if p, e := path.Params(s); len(p) != 0 || e != want {
			t.Errorf("Params(%s): %+v %v, not %v", short(s), p, e, want)
		}
	}
}

// eachByte calls do with each byte as a text.
func eachByte(do func(c byte, s string)) {
	for c := range 256 {
		do(byte(c), string([]byte{byte(c)}))
	}
}

func isOneOf(c byte, those string) bool { return strings.IndexByte(those, c) >= 0 }

const (
	small   = "abcdefghijklmnopqrstuvwxyz"
	great   = "ABCDEFGHIJKLMNOPQRSTUVWXYZ"
	digits  = "0123456789"
	ofLabel = small + great + digits
	ofAtom  = ofLabel + "!#$%&'*+-/=?^_`{|}~"
)

// short keeps what is told of a great text readable.
func short(s string) string {
	if len(s) > 80 {
		return fmt.Sprintf("%q.. of %d bytes", s[:80], len(s))
	}
	return strconv.Quote(s)
}

// dice are numbers that look like chance, the same ones each time.
type dice uint64

func (d *dice) roll(n int) int {
	*d = *d*6364136223846793005 + 1442695040888963407
	return int(uint64(*d>>33) % uint64(n))
}

func (d *dice) one(l []string) string { return l[d.roll(len(l))] }
