package cidr_test

import (
	"fmt"
	"strconv"
	"testing"

	"waybill/api"
	"waybill/cidr"
)

// four and six are ranges made of bytes, those behind them 0.
func four(bits int, addr ...byte) api.Net { return made(false, bits, addr) }

func six(bits int, addr ...byte) api.Net { return made(true, bits, addr) }

func made(isSix bool, bits int, addr []byte) api.Net {
	n := api.Net{Six: isSix, Bits: bits}
	copy(n.Addr[:], addr)
	return n
}

// groups is an address of IPv6.
func groups(g ...uint16) api.Net {
	n := api.Net{Six: true, Bits: 128}
	for i, x := range g {
		n.Addr[2*i], n.Addr[2*i+1] = byte(x>>8), byte(x)
	}
	return n
}

// parsed is the range of a text that is one.
func parsed(t *testing.T, s string) api.Net {
	t.Helper()
	n, e := cidr.Parse(s)
	if e != api.OK {
		t.Fatalf("Parse(%s): %v", short(s), e)
	}
	return n
}

// isAddr wants a text to be that address, also read as a range.
func isAddr(t *testing.T, s string, want api.Net) {
	t.Helper()
	if n, e := cidr.Addr(s); n != want || e != api.OK {
		t.Errorf("Addr(%s): %v %v, not %v", short(s), n, e, want)
	}
	isRange(t, s, want)
}

func isRange(t *testing.T, s string, want api.Net) {
	t.Helper()
	if n, e := cidr.Parse(s); n != want || e != api.OK {
		t.Errorf("Parse(%s): %v %v, not %v", short(s), n, e, want)
	}
	if !cidr.Right(want) {
		t.Errorf("Parse(%s): %v may not be", short(s), want)
	}
}

// noAddr wants a text to be no address, and no range.
func noAddr(t *testing.T, l ...string) {
	t.Helper()
	for _, s := range l {
		notAddr(t, s)
		noRange(t, s)
	}
}

func notAddr(t *testing.T, s string) {
	t.Helper()
	if n, e := cidr.Addr(s); n != (api.Net{}) || e != api.ErrCidrForm {
		t.Errorf("Addr(%s): %v %v", short(s), n, e)
	}
}

func noRange(t *testing.T, l ...string) {
	t.Helper()
	for _, s := range l {
		if n, e := cidr.Parse(s); n != (api.Net{}) || e != api.ErrCidrForm {
			t.Errorf("Parse(%s): %v %v", short(s), n, e)
		}
	}
}

// shows wants a range's form; not wants it to have none.
func shows(t *testing.T, n api.Net, want string) {
	t.Helper()
	if s, e := cidr.Show(n); s != want || e != api.OK {
		t.Errorf("Show(%v): %s %v, not %s", n, s, e, want)
	}
}

func notRight(t *testing.T, l ...api.Net) {
	t.Helper()
	for _, n := range l {
		if s, e := cidr.Show(n); s != "" || e != api.ErrCidrForm || cidr.Right(n) {
			t.Errorf("%v: %v; Show: %s %v", n, cidr.Right(n), s, e)
		}
	}
}

// lists wants a text to be these ranges.
func lists(t *testing.T, s string, want ...api.Net) {
	t.Helper()
	l, e := cidr.List(s)
	if e != api.OK || len(l) != len(want) {
		t.Errorf("List(%s): %v %v", short(s), l, e)
		return
	}
	for i, n := range want {
		if l[i] != n {
			t.Errorf("List(%s): %v at %d, not %v", short(s), l[i], i, n)
		}
	}
}

func noList(t *testing.T, s string, want api.Errno) {
	t.Helper()
	if l, e := cidr.List(s); len(l) != 0 || e != want {
		t.Errorf("List(%s): %v %v, not %v", short(s), l, e, want)
	}
}

// within wants a question of two ranges, as texts, to be answered so.
func within(t *testing.T, n, in string, want bool) {
	t.Helper()
	if cidr.Within(parsed(t, n), parsed(t, in)) != want {
		t.Errorf("Within(%s, %s): not %v", n, in, want)
	}
}

// short keeps what is told of a great text readable.
func short(s string) string {
	if len(s) > 60 {
		return fmt.Sprintf("%q.. of %d bytes", s[:60], len(s))
	}
	return strconv.Quote(s)
}

// dice are numbers that look like chance, the same ones each time.
type dice uint64

func (d *dice) roll(n int) int {
	*d = *d*6364136223846793005 + 1442695040888963407
	return int(uint64(*d>>33) % uint64(n))
}

func (d *dice) one(l []string) string { return l[d.roll(len(l))] }
