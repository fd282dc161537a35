package reply_test

import (
	"bytes"
	"fmt"
	"slices"
	"strconv"
	"strings"
	"testing"

	"waybill/api"
	"waybill/reply"
)

func says(code int, lines ...string) api.Reply { return api.Reply{Code: code, Lines: lines} }

func equal(a, b api.Reply) bool { return a.Code == b.Code && slices.Equal(a.Lines, b.Lines) }

// prints wants a reply to be right, to have these bytes, and to be read from them.
func prints(t *testing.T, r api.Reply, want string) {
	t.Helper()
	was := api.Reply{Code: r.Code, Lines: slices.Clone(r.Lines)}
	if !reply.Right(r) {
		t.Errorf("Right(%s): false", shown(r))
	}
	if b, e := reply.Print(r); string(b) != want || e != api.OK {
		t.Errorf("Print(%s): %s %v, not %s", shown(r), short(string(b)), e, short(want))
	}
	if !equal(r, was) {
		t.Errorf("%s was turned into %s", shown(was), shown(r))
	}
	reads(t, r, len(want), want)
}

// printsNot wants replies not to be right.
func printsNot(t *testing.T, l ...api.Reply) {
	t.Helper()
	for _, r := range l {
		was := api.Reply{Code: r.Code, Lines: slices.Clone(r.Lines)}
		if reply.Right(r) {
			t.Errorf("Right(%s): true", shown(r))
		}
		if b, e := reply.Print(r); len(b) != 0 || e != api.ErrReplyForm {
			t.Errorf("Print(%s): %s %v", shown(r), short(string(b)), e)
		}
		if !equal(r, was) {
			t.Errorf("%s was turned into %s", shown(was), shown(r))
		}
	}
}

// reads wants texts to begin with this reply, which has so many bytes.
func reads(t *testing.T, want api.Reply, size int, l ...string) {
	t.Helper()
	for _, s := range l {
		b, kept := within(s)
		r, n, e := reply.Read(b)
		if !equal(r, want) || n != size || e != api.OK {
			t.Errorf("Read(%s): %s %d %v, not %s %d", short(s), shown(r), n, e, shown(want), size)
		}
		if !kept() {
			t.Errorf("Read turned %s into %s", short(s), short(string(b)))
		}
	}
}

// fails wants Read to tell of this error, and nothing else.
func fails(t *testing.T, want api.Errno, l ...string) {
	t.Helper()
	for _, s := range l {
		b, kept := within(s)
		r, n, e := reply.Read(b)
		if r.Code != 0 || len(r.Lines) != 0 || n != 0 || e != want {
			t.Errorf("Read(%s): %s %d %v, not %v", short(s), shown(r), n, e, want)
		}
		if !kept() {
			t.Errorf("Read turned %s into %s", short(s), short(string(b)))
		}
	}
}

// same wants Read to tell what the model does.
func same(t *testing.T, l ...string) {
	t.Helper()
	for _, s := range l {
		want, size, e := modelRead(s)
		if e == api.OK {
			reads(t, want, size, s)
		} else {
			fails(t, e, s)
		}
	}
}

// status is what Status tells.
type status struct {
	a, b, c int
	is      bool
}

func tells(t *testing.T, want status, l ...string) {
	t.Helper()
	for _, s := range l {
		a, b, c, is := reply.Status(s)
		if got := (status{a, b, c, is}); got != want {
			t.Errorf("Status(%s): %v, not %v", short(s), got, want)
		}
	}
}

func tellsNot(t *testing.T, l ...string) {
	t.Helper()
	tells(t, status{}, l...)
}

// eachByte calls do with each byte as a text.
func eachByte(do func(c byte, s string)) {
	for c := range 256 {
		do(byte(c), string([]byte{byte(c)}))
	}
}

func xs(n int) string { return strings.Repeat("x", n) }

// rows is so many lines with a `-` behind their codes.
func rows(n int) string { return strings.Repeat("250-a\r\n", n) }

// as is a list of so many lines, and of others behind them.
func as(n int, others ...string) []string {
	return append(slices.Repeat([]string{"a"}, n), others...)
}

// within is a slice of a greater one, of which it tells whether something was written about it.
func within(s string) ([]byte, func() bool) {
	all := []byte("250-" + s + "250 z\r\n")
	old := bytes.Clone(all)
	return all[4 : 4+len(s)], func() bool { return bytes.Equal(all, old) }
}

// turn makes each byte another one.
func turn(b []byte) {
	for i := range b {
		b[i] ^= 0x5a
	}
}

// short keeps what is told of a great text readable.
func short(s string) string {
	if len(s) > 120 {
		return fmt.Sprintf("%q..%q of %d bytes", s[:80], s[len(s)-20:], len(s))
	}
	return strconv.Quote(s)
}

func shown(r api.Reply) string {
	var b strings.Builder
	fmt.Fprint(&b, "{", r.Code)
	for i, text := range r.Lines {
		if i == 5 {
			fmt.Fprintf(&b, ", .. of %d lines", len(r.Lines))
			break
		}
		fmt.Fprint(&b, ", ", short(text))
	}
	return b.String() + "}"
}

// dice are numbers that look like chance, the same ones each time.
type dice uint64

func (d *dice) roll(n int) int {
	*d = *d*6364136223846793005 + 1442695040888963407
	return int(uint64(*d>>33) % uint64(n))
}

func (d *dice) one(l []string) string { return l[d.roll(len(l))] }

// row is some of these texts, one behind the other.
func (d *dice) row(most int, l []string) string {
	s := ""
	for range d.roll(most + 1) {
		s += d.one(l)
	}
	return s
}
