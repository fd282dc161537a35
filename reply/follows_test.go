package reply_test

import (
	"slices"
	"strings"
	"testing"

	"waybill/api"
	"waybill/reply"
)

// back wants what is printed of a right reply to be read as it, whatever stands behind, and no beginning of it to be read.
func back(t *testing.T, r api.Reply, behind ...string) {
	t.Helper()
	b, e := reply.Print(r)
	if e != api.OK {
		t.Errorf("Print(%s): %v", shown(r), e)
		return
	}
	reads(t, r, len(b), string(b))
	for _, s := range behind {
		reads(t, r, len(b), string(b)+s)
	}
	near := 30
	for i := range len(b) {
		if i < near || i > len(b)-near || b[i] < ' ' || i%97 == 0 {
			fails(t, api.ErrReplyShort, string(b[:i]))
		}
	}
}

// again wants what is read to be the same when it was printed and read again.
func again(t *testing.T, s string) bool {
	t.Helper()
	r, n, e := reply.Read([]byte(s))
	if e != api.OK {
		return false
	}
	if n < 5 || n > len(s) || !reply.Right(r) {
		t.Errorf("Read(%s): %s %d", short(s), shown(r), n)
		return true
	}
	b, e := reply.Print(r)
	if e != api.OK {
		t.Errorf("Print(%s), read of %s: %v", shown(r), short(s), e)
	}
	want := s[:n]
	if strings.HasSuffix("\n"+want, "\n"+s[:3]+"\r\n") {
		want = s[:n-2] + " \r\n"
	}
	if string(b) != want {
		t.Fatalf("Print(%s): %s, not %s", shown(r), short(string(b)), short(want))
	}
	reads(t, r, len(b), string(b), string(b)+s)
	reads(t, r, n, s[:n])
	for i := range min(n, 200) {
		fails(t, api.ErrReplyShort, s[:n-1-i])
	}
	return true
}

var tails = []string{"x", "\r\n", "\n", "\r", " ", "-", "250 a\r\n", "250-a\r\n", "\x00", "\xff", xs(511), xs(600), strings.Repeat("250-a\r\n", 60)}

func TestP14_4Edges(t *testing.T) {
	for _, code := range []int{200, 259, 354, 400, 550, 559} {
		for _, text := range []string{"", " ", "-", "\t", "a", "250 a", "250-a", "~", xs(505), xs(506), strings.Repeat(" ", 506)} {
			back(t, says(code, text), tails...)
			back(t, says(code, text, text), tails...)
			back(t, says(code, text, "", "b"), tails...)
			back(t, says(code, "", "b", text), tails...)
		}
	}
	for _, n := range []int{1, 2, 3, 48, 49, 50} {
		back(t, says(250, as(n)...), tails...)
		back(t, says(250, make([]string, n)...), tails...)
		back(t, says(250, slices.Repeat([]string{xs(506)}, n)...), tails...)
	}
	eachByte(func(c byte, s string) {
		back(t, says(250, "a"), s)
		back(t, says(250, "a", "b"), s, s+s)
		if c == 9 || c >= 32 && c <= 126 {
			back(t, says(250, s), s, "250 b\r\n")
			back(t, says(250, s+"a", "a"+s), s)
		}
	})
	for _, s := range []string{"250\r\n", "250 \r\n", "250 a\r\n", "250-\r\n250\r\n", "250-\r\n250 \r\n", "250-a\r\n250\r\n", "250-250\r\n250 250\r\n", rows(49) + "250\r\n", rows(49) + "250 \r\n", "250-" + xs(506) + "\r\n250 " + xs(506) + "\r\n", "250-" + xs(506) + "\r\n250\r\n"} {
		for _, behind := range append(tails, "") {
			if !again(t, s+behind) {
				t.Errorf("Read(%s) is none", short(s+behind))
			}
		}
	}
}

func TestP14_4Chance(t *testing.T) {
	d := dice(144)
	for range 6000 {
		behind := d.row(5, append(tails, "250", "-", "5.1.1", "\x00\n"))
		back(t, d.reply(0), behind, d.one(tails))
	}
	read := 0
	for range 30000 {
		if again(t, d.bytes()) {
			read++
		}
	}
	if read < 10000 || read > 29000 {
		t.Error(read)
	}
}
