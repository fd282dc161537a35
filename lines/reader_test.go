package lines_test

import (
	"math"
	"strings"
	"testing"

	"waybill/api"
	"waybill/lines"
)

// sizes are of readers, the least and the greatest one among them.
var sizes = []int{1, 2, 4, 998, 65536}

func TestP12_1New(t *testing.T) {
	for _, most := range []int{math.MinInt, math.MinInt + 1, math.MinInt32, -65536, -1, 0, 65537, 65538, 1 << 17, math.MaxInt32, 1 << 32, 1<<32 + 1, math.MaxInt - 1, math.MaxInt} {
		if r, e := lines.New(most); r != nil || e != api.ErrArg {
			t.Errorf("New(%d): %v %v", most, r, e)
		}
	}
	for _, most := range append([]int{3, 999, 65535}, sizes...) {
		begin(t, most, "").ends("fed nothing", nil)
		reads(t, most, "x\r\n\r\nx", fine("x"), fine(""))
	}
}

// TestP12_1Examples: the chapter's reader of 4 bytes a line.
func TestP12_1Examples(t *testing.T) {
	const stream = "ab\r\nc\nabcde\r\nx"
	reads(t, 4, stream, fine("ab"), bare("c"), long("abcd"))
	r := reader(t, 4)
	r.Feed([]byte(stream))
	for _, want := range []told{fine("ab"), bare("c"), long("abcd")} {
		if line, e, is := r.Next(); string(line) != want.line || e != want.e || !is {
			t.Errorf("%q %v %v, not %v", line, e, is, want)
		}
	}
	for range 3 {
		if line, e, is := r.Next(); len(line) != 0 || e != api.OK || is || r.Left() != 1 {
			t.Errorf("%q %v %v %d", line, e, is, r.Left())
		}
	}
}

// TestP12_1None: no line as long as there is no 10.
func TestP12_1None(t *testing.T) {
	for _, most := range sizes {
		r := reader(t, most)
		for _, none := range [][]byte{nil, {}, make([]byte, 0, 8), nil} {
			for range 2 {
				if line, e, is := r.Next(); len(line) != 0 || e != api.OK || is || r.Left() != 0 {
					t.Errorf("%q %v %v %d", line, e, is, r.Left())
				}
			}
			r.Feed(none)
		}
		for _, stream := range []string{"x", "\r", "\x00", "\r\r", " \r ", "xx", "xxxxx", "\x00\r\x00", "\u000b\u000c\u0085\u2028", xs(998), xs(999), xs(65537), xs(200000), strings.Repeat("\r", 1000)} {
			reads(t, most, stream)
		}
	}
	c := begin(t, 4, "ab\r\ncd\r\n")
	for _, size := range []int{0, 1, 0, 0, 2, 0, 1, 0, 4, 0} {
		c.feed(size)
		c.ask()
	}
	c.ends("with empty pieces", []told{fine("ab"), fine("cd")})
}

// TestP12_1Several: several lines at once, and each of them when its 10 comes.
func TestP12_1Several(t *testing.T) {
	reads(t, 4, "\r\n\r\n\r\n", fine(""), fine(""), fine(""))
	reads(t, 4, "\n\n\n", bare(""), bare(""), bare(""))
	reads(t, 4, "a\r\n\r\n\nb\n\r\nc", fine("a"), fine(""), bare(""), bare("b"), fine(""))
	reads(t, 4, "abcd\r\nabcde\r\nabcd\nabcde\n", fine("abcd"), long("abcd"), bare("abcd"), long("abcd"))
	reads(t, 998, "EHLO pc\r\nMAIL FROM:<a@b>\r\n.\r\n..\r\n", fine("EHLO pc"), fine("MAIL FROM:<a@b>"), fine("."), fine(".."))
	c := begin(t, 4, "a\r\nb\r\nc\r\nd\r\n")
	c.feed(6)
	for i, want := range []told{fine("a"), fine("b")} {
		if i == 1 {
			c.feed(3)
		}
		line, e, is := c.r.Next()
		if string(line) != want.line || e != want.e || !is {
			t.Errorf("%q %v %v, not %v", line, e, is, want)
		}
		c.take(3)
		c.waits()
	}
	c.feed(3)
	c.ends("behind two", []told{fine("c"), fine("d")})
}

// TestP12_1Long: lines of just as many bytes as they may have, of one more and of many more, however they end.
func TestP12_1Long(t *testing.T) {
	for _, most := range sizes {
		reads(t, most, xs(most)+"\r\n", fine(xs(most)))
		reads(t, most, xs(most)+"\n", bare(xs(most)))
		reads(t, most, xs(most-1)+"\r\r\n", bare(xs(most-1)+"\r"))
		reads(t, most, "\r"+xs(most-1)+"\r\n", bare("\r"+xs(most-1)))
		for _, size := range []int{most + 1, most + 2, 2*most + 1, 10*most + 7} {
			reads(t, most, xs(size)+"\r\n", long(xs(most)))
			reads(t, most, xs(size)+"\n", long(xs(most)))
			reads(t, most, xs(size)+"\r\nx\r\n", long(xs(most)), fine("x"))
			reads(t, most, xs(size)+"\nx\n", long(xs(most)), bare("x"))
			reads(t, most, xs(size-1)+"\r\r\n", long((xs(size-1) + "\r")[:most]))
			reads(t, most, xs(most)+strings.Repeat("\r", size-most)+"\r\n", long(xs(most)))
		}
		reads(t, most, xs(most)+"\r\r\n", long(xs(most)))
		reads(t, most, xs(most)+"\r\r\r\n", long(xs(most)))
		reads(t, most, xs(most-1)+"\r\n"+xs(most-1)+"\n", fine(xs(most-1)), bare(xs(most-1)))
	}
}

// TestP12_1Bare: a 13 stands right ahead of the 10, and nowhere else.
func TestP12_1Bare(t *testing.T) {
	for stream, want := range map[string]string{
		"\n": "", "a\n": "a", "\ra\n": "\ra", "a\rb\n": "a\rb", "\r\r\n": "\r", "a\r\r\n": "a\r", "\ra\r\n": "\ra", "a\rb\r\n": "a\rb", "\r\r\r\n": "\r\r",
		"ab\rc\r\n": "ab\rc", "\r \n": "\r ", "\r \r\n": "\r ", "\r.\n": "\r.", ".\n": ".", "\r.\r\n": "\r.", ".\r\r\n": ".\r",
	} {
		reads(t, 4, stream, bare(want))
		reads(t, 65536, stream, bare(want))
		reads(t, 4, stream+"x\r\n", bare(want), fine("x"))
		reads(t, 4, "x\r\n"+stream+"\r", fine("x"), bare(want))
	}
	reads(t, 4, "\n\r\n\r", bare(""), fine(""))
	reads(t, 4, "\n\ra\r\n", bare(""), bare("\ra"))
	reads(t, 4, "a\r\n\r\r\nb\r\n", fine("a"), bare("\r"), fine("b"))
}

// TestP12_1Nul: a byte 0 is told ahead of a 13 or a 10 alone.
func TestP12_1Nul(t *testing.T) {
	for _, line := range []string{"\x00", "a\x00", "\x00a", "a\x00b", "\x00\x00", "\x00\r", "\r\x00", "\r\x00\r", "a\r\x00b", "a\x00\rb", "\x00\r\r"} {
		for _, end := range []string{"\r\n", "\n"} {
			want := line
			if end == "\n" {
				want = strings.TrimSuffix(line, "\r")
			}
			reads(t, 4, line+end, nul(want))
			reads(t, 65536, line+end+"a\r\n"+line, nul(want), fine("a"))
			reads(t, 4, "a\n"+line+end, bare("a"), nul(want))
		}
	}
	reads(t, 1, "\x00\r\n\x00\n\r\n", nul("\x00"), nul("\x00"), fine(""))
}

// TestP12_1First: too long is told ahead of all else, wherever that stands.
func TestP12_1First(t *testing.T) {
	for _, most := range sizes {
		for _, odd := range []string{"\x00", "\r", "\x00\r", "\r\x00", "\r\r", "\x00\x00"} {
			for _, end := range []string{"\r\n", "\n"} {
				for _, front := range []int{0, 1, most - 1, most, most + 1, 2 * most} {
					for _, back := range []int{1, most + 1} {
						line := xs(front) + odd + xs(back)
						if len(line) > most {
							reads(t, most, line+end, long(line[:most]))
						}
					}
				}
				reads(t, most, xs(most)+odd+"x"+end+"x\r\n", long(xs(most)), fine("x"))
			}
		}
	}
	reads(t, 4, "abc\x00\n", nul("abc\x00"))
	reads(t, 4, "abc\x00\r\r\n", long("abc\x00"))
	reads(t, 4, "abcd\x00\n", long("abcd"))
	reads(t, 4, "abc\r\x00\n", long("abc\r"))
}

// TestP12_1Byte: each byte in a line, and behind the bytes that are told of one that is too long.
func TestP12_1Byte(t *testing.T) {
	eachByte(func(c byte, s string) {
		for _, front := range []string{"", "a", "ab"} {
			for _, back := range []string{"", "z"} {
				for _, end := range []string{"\r\n", "\n"} {
					stream := front + s + back + end
					want, left := modelLines(stream, 4)
					if left != "" || len(want) != 1+oneIf(c == '\n') {
						t.Fatal(want, left)
					}
					reads(t, 4, stream, want...)
					want, _ = modelLines(stream, 1)
					reads(t, 1, stream, want...)
				}
			}
		}
		switch c {
		case 0:
			reads(t, 4, "a"+s+"z\r\n", nul("a"+s+"z"))
		case '\r':
			reads(t, 4, "a"+s+"z\r\n", bare("a"+s+"z"))
		case '\n':
			reads(t, 4, "a"+s+"z\r\n", bare("a"), fine("z"))
			return
		default:
			reads(t, 4, "a"+s+"z\r\n", fine("a"+s+"z"))
		}
		reads(t, 4, "abcd"+s+"z\r\n", long("abcd"))
		reads(t, 4, "abcd"+s+"z\n", long("abcd"))
		reads(t, 4, "abc"+s+"z\r\n", long("abc"+s))
		reads(t, 4, s+s+s+s+s+"z\r\n", long(s+s+s+s))
	})
}

// TestP12_1Great: many lines at once, and a line that comes byte by byte and is asked for between each two.
func TestP12_1Great(t *testing.T) {
	const n = 1 << 20
	c := begin(t, 1, strings.Repeat("\r\n", n)+strings.Repeat("\n", n)+"x")
	c.feedRest()
	c.ask()
	for i, x := range c.heard {
		want := fine("")
		if i >= n {
			want = bare("")
		}
		if x != want {
			t.Fatalf("line %d: %v", i, x)
		}
	}
	if len(c.heard) != 2*n {
		t.Error(len(c.heard))
	}
	r := reader(t, 4)
	for i := range n {
		r.Feed([]byte("x"))
		if line, e, is := r.Next(); len(line) != 0 || e != api.OK || is || r.Left() != i+1 {
			t.Fatalf("%d: %q %v %v %d", i, line, e, is, r.Left())
		}
	}
	r.Feed([]byte("\n"))
	if line, e, is := r.Next(); string(line) != "xxxx" || e != api.ErrLineLong || !is || r.Left() != 0 {
		t.Errorf("%q %v %v %d", line, e, is, r.Left())
	}
}

// TestP12_1TwoReaders: what one is fed is nothing to another one.
func TestP12_1TwoReaders(t *testing.T) {
	a, b := begin(t, 4, "ab\r\ncdefg\r\nh\ni"), begin(t, 5, "12345\r\n678901\n\r\n\x002")
	for a.fed < len(a.stream) || b.fed < len(b.stream) {
		a.feed(min(1, len(a.stream)-a.fed))
		b.feed(min(2, len(b.stream)-b.fed))
		b.waits()
		a.waits()
		if a.fed%3 == 0 {
			b.ask()
		}
		if a.fed%4 == 0 {
			a.ask()
		}
	}
	a.ends("beside another", []told{fine("ab"), long("cdef"), bare("h")})
	b.ends("beside another", []told{fine("12345"), long("67890"), fine("")})
	if a.r.Left() != 1 || b.r.Left() != 2 {
		t.Error(a.r.Left(), b.r.Left())
	}
}

func oneIf(is bool) int {
	if is {
		return 1
	}
	return 0
}
