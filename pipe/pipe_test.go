package pipe_test

import (
	"fmt"
	"math"
	"slices"
	"strings"
	"testing"

	"waybill/api"
	"waybill/pipe"
)

// fresh are pipes without any.
func fresh(t *testing.T) *pipe.Pipes {
	t.Helper()
	p := pipe.New()
	if p == nil {
		t.Fatal("New: nil")
	}
	return p
}

// between are pipes, each given as `from to`, of so many messages.
func between(t *testing.T, most int, names ...string) *pipe.Pipes {
	t.Helper()
	p := fresh(t)
	for _, name := range names {
		from, to, _ := strings.Cut(name, " ")
		opens(t, p, from, to, most, api.OK)
	}
	return p
}

func opens(t *testing.T, p *pipe.Pipes, from, to string, most int, want api.Errno) {
	t.Helper()
	if e := p.Open(from, to, most); e != want {
		t.Errorf("Open(%q, %q, %d): %v, not %v", from, to, most, e, want)
	}
}

func sends(t *testing.T, p *pipe.Pipes, from, to, b string, want api.Errno) {
	t.Helper()
	if e := p.Send(from, to, []byte(b)); e != want {
		t.Errorf("Send(%q, %q, %s): %v, not %v", from, to, short(b), e, want)
	}
}

func takes(t *testing.T, p *pipe.Pipes, from, to, want string) {
	t.Helper()
	if b, e := p.Take(from, to); string(b) != want || e != api.OK {
		t.Errorf("Take(%q, %q): %s %v, not %s", from, to, short(string(b)), e, short(want))
	}
}

func takesNothing(t *testing.T, p *pipe.Pipes, from, to string, want api.Errno) {
	t.Helper()
	if b, e := p.Take(from, to); len(b) != 0 || e != want {
		t.Errorf("Take(%q, %q): %s %v, not %v", from, to, short(string(b)), e, want)
	}
}

func holds(t *testing.T, p *pipe.Pipes, from, to string, length, room int) {
	t.Helper()
	if l, r := p.Len(from, to), p.Room(from, to); l != length || r != room {
		t.Errorf("Len and Room(%q, %q): %d %d, not %d %d", from, to, l, r, length, room)
	}
}

func clears(t *testing.T, p *pipe.Pipes, port string, want int) {
	t.Helper()
	if n := p.Clear(port); n != want {
		t.Errorf("Clear(%q): %d, not %d", port, n, want)
	}
}

func waiting(t *testing.T, p *pipe.Pipes, want ...string) {
	t.Helper()
	if l := p.Waiting(); !slices.Equal(l, want) {
		t.Errorf("Waiting: %q, not %q", l, want)
	}
}

// short keeps what is told of a great message readable.
func short(s string) string {
	if len(s) > 40 {
		return fmt.Sprintf("%q.. of %d bytes", s[:40], len(s))
	}
	return fmt.Sprintf("%q", s)
}

// great is a message of so many bytes, whose bytes differ from place to place.
func great(n int) string {
	b := make([]byte, n)
	for i := range b {
		b[i] = byte(i + i>>8)
	}
	return string(b)
}

func portName(i int) string { return fmt.Sprintf("port-%d", i) }

// withPorts are pipes of so many ports, all from the first one to the others.
func withPorts(t *testing.T, ports int) *pipe.Pipes {
	t.Helper()
	p := fresh(t)
	for i := 1; i < ports; i++ {
		opens(t, p, portName(0), portName(i), 1, api.OK)
	}
	return p
}

func TestP5_1NewHasNone(t *testing.T) {
	p := fresh(t)
	holds(t, p, "a", "b", 0, 0)
	sends(t, p, "a", "b", "x", api.ErrPipeNone)
	takesNothing(t, p, "a", "b", api.ErrPipeNone)
	waiting(t, p)
}

// TestP5_1NewIsItsOwn: two of them share nothing (R4).
func TestP5_1NewIsItsOwn(t *testing.T) {
	p, q := between(t, 2, "a b"), fresh(t)
	sends(t, p, "a", "b", "x", api.OK)
	holds(t, q, "a", "b", 0, 0)
	opens(t, q, "a", "b", 1, api.OK)
	holds(t, q, "a", "b", 0, 1)
	clears(t, q, "a", 0)
	holds(t, p, "a", "b", 1, 1)
}

func TestP5_1OpenIsEmpty(t *testing.T) {
	for _, most := range []int{1, 2, 63, 64} {
		p := fresh(t)
		opens(t, p, "a", "b", most, api.OK)
		holds(t, p, "a", "b", 0, most)
		takesNothing(t, p, "a", "b", api.ErrPipeEmpty)
		waiting(t, p)
	}
}

func TestP5_1OpenPortLengths(t *testing.T) {
	for _, x := range []struct {
		port string
		want api.Errno
	}{
		{"", api.ErrPipePort},
		{"x", api.OK},
		{"-", api.OK},
		{"--", api.OK},
		{"7", api.OK},
		{strings.Repeat("x", 31), api.OK},
		{strings.Repeat("x", 32), api.OK},
		{strings.Repeat("x", 33), api.ErrPipePort},
		{strings.Repeat("x", 1000), api.ErrPipePort},
		{strings.Repeat("\u00e9", 16), api.ErrPipePort},
	} {
		opens(t, fresh(t), x.port, "other", 1, x.want)
		opens(t, fresh(t), "other", x.port, 1, x.want)
	}
}

// TestP5_1OpenPortBytes goes through all bytes, at each place of a port, with a list of the right ones that is written out.
func TestP5_1OpenPortBytes(t *testing.T) {
	const right = "-0123456789abcdefghijklmnopqrstuvwxyz"
	for c := range 256 {
		want := api.ErrPipePort
		if strings.Contains(right, string([]byte{byte(c)})) {
			want = api.OK
		}
		for at := range 4 {
			name := []byte("wxyz")
			name[at] = byte(c)
			opens(t, fresh(t), string(name), "other", 1, want)
			opens(t, fresh(t), "other", string(name), 1, want)
		}
		opens(t, fresh(t), string([]byte{byte(c)}), "other", 1, want)
	}
}

func TestP5_1OpenMost(t *testing.T) {
	for _, x := range []struct {
		most int
		want api.Errno
	}{
		{math.MinInt, api.ErrArg}, {-1, api.ErrArg}, {0, api.ErrArg}, {1, api.OK}, {64, api.OK}, {65, api.ErrArg}, {math.MaxInt, api.ErrArg},
	} {
		p := fresh(t)
		opens(t, p, "a", "b", x.most, x.want)
		if x.want == api.OK {
			holds(t, p, "a", "b", 0, x.most)
			continue
		}
		holds(t, p, "a", "b", 0, 0)
		takesNothing(t, p, "a", "b", api.ErrPipeNone)
		opens(t, p, "a", "b", 1, api.OK) // what was refused left nothing behind
	}
}

func TestP5_1OpenItself(t *testing.T) {
	p := fresh(t)
	opens(t, p, "x", "x", 1, api.ErrPipePort)
	takesNothing(t, p, "x", "x", api.ErrPipeNone)
	opens(t, p, "x", "y", 1, api.OK)
	opens(t, p, "x", "x", 1, api.ErrPipePort)
	opens(t, p, "y", "y", 1, api.ErrPipePort)
}

func TestP5_1OpenTwice(t *testing.T) {
	p := between(t, 2, "a b")
	sends(t, p, "a", "b", "x", api.OK)
	opens(t, p, "a", "b", 2, api.ErrPipePort)
	opens(t, p, "a", "b", 64, api.ErrPipePort)
	holds(t, p, "a", "b", 1, 1)
	takes(t, p, "a", "b", "x")
	opens(t, p, "a", "b", 2, api.ErrPipePort)
	holds(t, p, "a", "b", 0, 2)
}

func TestP5_1OpenTheOtherWay(t *testing.T) {
	p := between(t, 1, "a b")
	opens(t, p, "b", "a", 3, api.OK)
	sends(t, p, "a", "b", "there", api.OK)
	holds(t, p, "a", "b", 1, 0)
	holds(t, p, "b", "a", 0, 3)
	takesNothing(t, p, "b", "a", api.ErrPipeEmpty)
	sends(t, p, "b", "a", "back", api.OK)
	takes(t, p, "a", "b", "there")
	takes(t, p, "b", "a", "back")
	opens(t, p, "b", "a", 1, api.ErrPipePort)
}

// TestP5_1OpenTellsPortsApart: pipes whose ports' bytes are the same ones, cut elsewhere, are other ones.
func TestP5_1OpenTellsPortsApart(t *testing.T) {
	names := []string{"a -b", "a- b", "a --b", "a-- b", "a- -b", "ab c", "a bc", "b a-"}
	p := between(t, 2, names...)
	for _, name := range names {
		from, to, _ := strings.Cut(name, " ")
		sends(t, p, from, to, name, api.OK)
	}
	for _, name := range names {
		from, to, _ := strings.Cut(name, " ")
		holds(t, p, from, to, 1, 1)
		takes(t, p, from, to, name)
	}
}

func TestP5_1OpenPorts(t *testing.T) {
	for _, x := range []struct {
		ports    int
		from, to string
		want     api.Errno
	}{
		{30, "new", "newer", api.OK},
		{31, "new", "newer", api.ErrPipePort},
		{31, portName(0), "new", api.OK},
		{31, "new", portName(0), api.OK},
		{31, "new", portName(30), api.OK},
		{31, portName(1), portName(2), api.OK},
		{32, "new", "newer", api.ErrPipePort},
		{32, portName(0), "new", api.ErrPipePort},
		{32, "new", portName(0), api.ErrPipePort},
		{32, portName(31), "new", api.ErrPipePort},
		{32, portName(1), portName(2), api.OK},
		{32, portName(31), portName(0), api.OK},
	} {
		p := withPorts(t, x.ports)
		opens(t, p, x.from, x.to, 5, x.want)
		if x.want == api.OK {
			holds(t, p, x.from, x.to, 0, 5)
			continue
		}
		holds(t, p, x.from, x.to, 0, 0)
		takesNothing(t, p, x.from, x.to, api.ErrPipeNone)
		if x.ports == 31 {
			opens(t, p, portName(3), "new", 1, api.OK) // the refused ports don't count
		}
	}
}

// TestP5_1OpenAllPipes: there may be a pipe between any two of 32 ports.
func TestP5_1OpenAllPipes(t *testing.T) {
	p := fresh(t)
	for i := range 32 {
		for j := range 32 {
			want := api.OK
			if i == j {
				want = api.ErrPipePort
			}
			opens(t, p, portName(i), portName(j), 1, want)
		}
	}
	opens(t, p, portName(32), portName(33), 1, api.ErrPipePort)
	opens(t, p, portName(5), portName(32), 1, api.ErrPipePort)
	opens(t, p, portName(32), portName(5), 1, api.ErrPipePort)
	opens(t, p, portName(5), portName(6), 1, api.ErrPipePort)
}

// TestP5_1OpenSeveralErrors: what is wrong with ports is answered ahead of what is wrong with most (R1).
func TestP5_1OpenSeveralErrors(t *testing.T) {
	full := withPorts(t, 32)
	for _, x := range []struct {
		p        *pipe.Pipes
		from, to string
		want     api.Errno
	}{
		{fresh(t), "", "b", api.ErrPipePort},
		{fresh(t), "a", "B", api.ErrPipePort},
		{fresh(t), "", "", api.ErrPipePort},
		{fresh(t), "a", "a", api.ErrPipePort},
		{between(t, 1, "a b"), "a", "b", api.ErrPipePort},
		{between(t, 1, "a b"), "b", "a", api.ErrArg},
		{full, portName(0), "new", api.ErrPipePort},
		{full, "new", "newer", api.ErrPipePort},
		{full, portName(1), portName(0), api.ErrArg},
		{fresh(t), "a", "b", api.ErrArg},
	} {
		for _, most := range []int{-1, 0, 65} {
			opens(t, x.p, x.from, x.to, most, x.want)
		}
	}
}

func TestP5_2SendLengths(t *testing.T) {
	for _, x := range []struct {
		bytes int
		want  api.Errno
	}{
		{0, api.OK}, {1, api.OK}, {65535, api.OK}, {65536, api.OK}, {65537, api.ErrPipeLong}, {1 << 20, api.ErrPipeLong},
	} {
		p := between(t, 2, "a b")
		sends(t, p, "a", "b", great(x.bytes), x.want)
		if x.want != api.OK {
			holds(t, p, "a", "b", 0, 2)
			takesNothing(t, p, "a", "b", api.ErrPipeEmpty)
			continue
		}
		holds(t, p, "a", "b", 1, 1)
		takes(t, p, "a", "b", great(x.bytes))
	}
}

// TestP5_2SendNothing: a message without bytes is one, whether nil or empty (R2).
func TestP5_2SendNothing(t *testing.T) {
	p := between(t, 2, "a b")
	for _, b := range [][]byte{nil, {}} {
		if e := p.Send("a", "b", b); e != api.OK {
			t.Error("Send of nothing:", e)
		}
	}
	sends(t, p, "a", "b", "", api.ErrPipeFull)
	waiting(t, p, "b")
	takes(t, p, "a", "b", "")
	takes(t, p, "a", "b", "")
	takesNothing(t, p, "a", "b", api.ErrPipeEmpty)
}

func TestP5_2SendBytes(t *testing.T) {
	p := between(t, 64, "a b")
	for _, b := range []string{"\x00", "\r\n", "\xff\xfe", "\x00\x00\x01", "hi\r\n.\r\n"} {
		sends(t, p, "a", "b", b, api.OK)
		takes(t, p, "a", "b", b)
	}
}

func TestP5_2SendToNone(t *testing.T) {
	p := between(t, 1, "a b")
	for _, name := range []string{"b a", "a c", "c b", "c d", "a a", "b b", " ", "a ", " b", "A b", "a b ", "a b\x00"} {
		from, to, _ := strings.Cut(name, " ")
		sends(t, p, from, to, "x", api.ErrPipeNone)
		takesNothing(t, p, from, to, api.ErrPipeNone)
		holds(t, p, from, to, 0, 0)
	}
	holds(t, p, "a", "b", 0, 1)
	waiting(t, p)
}

func TestP5_2SendFull(t *testing.T) {
	for _, most := range []int{1, 2, 7, 64} {
		p := between(t, most, "a b")
		for i := range most {
			sends(t, p, "a", "b", fmt.Sprint(i), api.OK)
		}
		sends(t, p, "a", "b", "more", api.ErrPipeFull)
		sends(t, p, "a", "b", "", api.ErrPipeFull)
		holds(t, p, "a", "b", most, 0)
		takes(t, p, "a", "b", "0")
		sends(t, p, "a", "b", "again", api.OK)
		sends(t, p, "a", "b", "more", api.ErrPipeFull)
		for i := 1; i < most; i++ {
			takes(t, p, "a", "b", fmt.Sprint(i))
		}
		takes(t, p, "a", "b", "again")
		takesNothing(t, p, "a", "b", api.ErrPipeEmpty)
	}
}

// TestP5_2SendSeveralErrors: no such pipe is answered first, too long next (R1).
func TestP5_2SendSeveralErrors(t *testing.T) {
	p := between(t, 1, "a b")
	sends(t, p, "b", "a", great(65537), api.ErrPipeNone)
	sends(t, p, "", "B", great(65537), api.ErrPipeNone)
	sends(t, p, "a", "b", "x", api.OK)
	sends(t, p, "a", "b", great(65537), api.ErrPipeLong)
	sends(t, p, "a", "b", great(65536), api.ErrPipeFull)
	takes(t, p, "a", "b", "x")
	takesNothing(t, p, "a", "b", api.ErrPipeEmpty)
}

func TestP5_2TakeInOrder(t *testing.T) {
	p := between(t, 3, "a b", "a c")
	sends(t, p, "a", "b", "1", api.OK)
	sends(t, p, "a", "c", "other 1", api.OK)
	sends(t, p, "a", "b", "2", api.OK)
	takes(t, p, "a", "b", "1")
	sends(t, p, "a", "b", "3", api.OK)
	sends(t, p, "a", "b", "3", api.OK) // the same once more is one more
	sends(t, p, "a", "b", "4", api.ErrPipeFull)
	takes(t, p, "a", "b", "2")
	takes(t, p, "a", "b", "3")
	sends(t, p, "a", "b", "5", api.OK)
	takes(t, p, "a", "b", "3")
	takes(t, p, "a", "c", "other 1")
	takes(t, p, "a", "b", "5")
	takesNothing(t, p, "a", "b", api.ErrPipeEmpty)
	takesNothing(t, p, "a", "b", api.ErrPipeEmpty)
	sends(t, p, "a", "b", "6", api.OK)
	takes(t, p, "a", "b", "6")
}

// TestP5_2SharesNothing: what is handed in and what is told may be written over, and grown, with no effect on a pipe (R3).
func TestP5_2SharesNothing(t *testing.T) {
	p := between(t, 3, "a b", "b c")
	in := make([]byte, 2, 10)
	copy(in, "in")
	for range 2 {
		if e := p.Send("a", "b", in); e != api.OK {
			t.Fatal(e)
		}
	}
	if e := p.Send("b", "c", in); e != api.OK || string(in) != "in" {
		t.Fatal(e, string(in))
	}
	copy(in, "XX")
	_ = append(in, "YYYY"...)
	first, _ := p.Take("a", "b")
	if string(first) != "in" {
		t.Errorf("the first one is %q", first)
	}
	copy(first, "ZZ")
	_ = append(first, "ZZZZ"...)
	takes(t, p, "a", "b", "in")
	takes(t, p, "b", "c", "in")
	sends(t, p, "a", "b", "new", api.OK)
	clears(t, p, "a", 1)
	if string(first) != "ZZ" || string(in) != "XX" {
		t.Errorf("what was told is %q, what was handed in %q", first, in)
	}
}

func TestP5_3LenAndRoom(t *testing.T) {
	p := between(t, 64, "a b")
	for i := range 64 {
		holds(t, p, "a", "b", i, 64-i)
		sends(t, p, "a", "b", "x", api.OK)
	}
	for i := range 64 {
		holds(t, p, "a", "b", 64-i, i)
		holds(t, p, "b", "a", 0, 0)
		takes(t, p, "a", "b", "x")
	}
	holds(t, p, "a", "b", 0, 64)
	holds(t, p, "", "", 0, 0)
}

func TestP5_3Clear(t *testing.T) {
	p := between(t, 3, "a b", "b a", "c a", "a d", "b c", "d b")
	for i, name := range []string{"a b", "a b", "b a", "c a", "c a", "c a", "b c", "d b", "d b"} {
		from, to, _ := strings.Cut(name, " ")
		sends(t, p, from, to, fmt.Sprint(name, i), api.OK)
	}
	clears(t, p, "a", 6)
	for _, name := range []string{"a b", "b a", "c a", "a d"} {
		from, to, _ := strings.Cut(name, " ")
		holds(t, p, from, to, 0, 3)
		takesNothing(t, p, from, to, api.ErrPipeEmpty)
	}
	holds(t, p, "b", "c", 1, 2)
	holds(t, p, "d", "b", 2, 1)
	clears(t, p, "a", 0)
	sends(t, p, "a", "b", "behind", api.OK)
	takes(t, p, "a", "b", "behind")
	takes(t, p, "b", "c", "b c6")
	takes(t, p, "d", "b", "d b7")
	clears(t, p, "b", 1)
	takesNothing(t, p, "d", "b", api.ErrPipeEmpty)
	opens(t, p, "a", "b", 3, api.ErrPipePort) // what was cleared is still there
}

func TestP5_3ClearNone(t *testing.T) {
	p := between(t, 2, "a b")
	sends(t, p, "a", "b", "x", api.OK)
	for _, port := range []string{"c", "", "A", "ab", "a b", "a\x00", strings.Repeat("a", 33)} {
		clears(t, p, port, 0)
	}
	holds(t, p, "a", "b", 1, 1)
	takes(t, p, "a", "b", "x")
	clears(t, fresh(t), "a", 0)
}

// TestP5_3ClearFull: as many as a pipe may hold, both ways, and as many fit again.
func TestP5_3ClearFull(t *testing.T) {
	p := between(t, 64, "a b", "b a")
	for range 64 {
		sends(t, p, "a", "b", "x", api.OK)
		sends(t, p, "b", "a", "x", api.OK)
	}
	clears(t, p, "b", 128)
	holds(t, p, "a", "b", 0, 64)
	holds(t, p, "b", "a", 0, 64)
}

func TestP5_3Waiting(t *testing.T) {
	p := between(t, 2, "a z", "b z", "z a", "a a0", "a aa", "a a-", "a 9", "a -", "a b")
	waiting(t, p)
	for _, to := range []string{"z", "aa", "a0", "a-", "9", "-"} {
		sends(t, p, "a", to, "", api.OK)
	}
	waiting(t, p, "-", "9", "a-", "a0", "aa", "z")
	sends(t, p, "b", "z", "x", api.OK)
	sends(t, p, "b", "z", "x", api.OK)
	sends(t, p, "z", "a", "x", api.OK)
	waiting(t, p, "-", "9", "a", "a-", "a0", "aa", "z")
	takes(t, p, "a", "z", "")
	waiting(t, p, "-", "9", "a", "a-", "a0", "aa", "z")
	takes(t, p, "b", "z", "x")
	waiting(t, p, "-", "9", "a", "a-", "a0", "aa", "z")
	takes(t, p, "b", "z", "x")
	waiting(t, p, "-", "9", "a", "a-", "a0", "aa")
	clears(t, p, "aa", 1)
	waiting(t, p, "-", "9", "a", "a-", "a0")
	clears(t, p, "a", 5)
	waiting(t, p)
	sends(t, p, "a", "b", "x", api.OK)
	waiting(t, p, "b")
	clears(t, p, "b", 1)
	waiting(t, p)
}

// TestP5_3WaitingAll: all 32 ports at once, the same each time (R4); what is told is the caller's own (R3).
func TestP5_3WaitingAll(t *testing.T) {
	p := fresh(t)
	var want []string
	for i := range 32 {
		from, to := portName(i), portName((i+1)%32)
		opens(t, p, from, to, 1, api.OK)
		sends(t, p, from, to, "x", api.OK)
		want = append(want, to)
	}
	slices.Sort(want)
	for range 20 {
		waiting(t, p, want...)
		l := p.Waiting()
		for i := range l {
			l[i] = "mine"
		}
	}
}

// TestExamples is the chapter's table.
func TestExamples(t *testing.T) {
	p := fresh(t)
	opens(t, p, "smtpd", "cleanup", 1, api.OK)
	sends(t, p, "smtpd", "cleanup", "a", api.OK)
	sends(t, p, "smtpd", "cleanup", "b", api.ErrPipeFull)
	takes(t, p, "smtpd", "cleanup", "a")
	takesNothing(t, p, "smtpd", "cleanup", api.ErrPipeEmpty)
	opens(t, p, "smtpd", "cleanup", 2, api.ErrPipePort)
	opens(t, p, "x", "x", 1, api.ErrPipePort)
	sends(t, p, "cleanup", "smtpd", "a", api.ErrPipeNone)
}
