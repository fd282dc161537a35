package header_test

import (
	"math"
	"strings"
	"testing"
)

func TestP11_3Unfold(t *testing.T) {
	for body, want := range map[string]string{
		"": "", " ": "", "\t": "", " \t ": "", "\r\n": "", "\r": "", "\n": "", "\r\n \r\n\t": "", "\r\n\r\n": "", " \r\n": "", "\n\r \r\n": "",
		"a": "a", " a": "a", "a ": "a", "\ta\t": "a", " \t a \t ": "a", "a b": "a b", "a  b": "a  b", "a\tb": "a\tb", "a \t b": "a \t b",
		"a\r\n b": "a b", "a\r\n\tb": "a\tb", "a\r\n  b": "a  b", "a\r\n\t b": "a\t b", "a \r\n b": "a  b", "a\t\r\n\tb": "a\t\tb",
		"a\r\nb": "a\r\nb", "a\r\n": "a", "a\r\n ": "a", "a \r\n\t": "a", "\r\na": "a", "\r\n a": "a", "\r\n\ta\r\n": "a",
		"a\r\n \r\n b": "a  b", "a\r\n\t\r\n b": "a\t b", "a\r\n \r\n\t\r\n b": "a \t b", "a\r\n\r\n b": "a\r\n b", "a\r\n\r\n\tb": "a\r\n\tb", "a\r\n\r\n\r\n b": "a\r\n\r\n b", "a\r\n\r\nb": "a\r\n\r\nb",
		"a\rb": "a\rb", "a\nb": "a\nb", "a\r b": "a\r b", "a\n b": "a\n b", "a\n\tb": "a\n\tb", "a\n\r b": "a\n\r b", "a\r\r\n b": "a\r b", "a\r\n\n b": "a\r\n\n b", "a\n\r\n b": "a\n b", "a\r\n\r b": "a\r\n\r b",
		"\ra": "a", "\na": "a", "a\r": "a", "a\n": "a", "\n\r a\n \r": "a", "\r\r\n a": "a", "a\r\n b\r": "a b", "a\r\n b\n": "a b",
		"\x00": "\x00", "\x0b a\x0c": "\x0b a\x0c", "\u00a0a\u00a0": "\u00a0a\u00a0", "\x80\r\n \xff": "\x80 \xff", "\x85": "\x85", "a\r\n :b": "a :b",
		" x\r\n y": "x y",
	} {
		unfolds(t, body, want)
	}
	for _, n := range []int{2, 3, 1000, 30000} {
		unfolds(t, "a"+strings.Repeat("\r\n ", n)+"b", "a"+strings.Repeat(" ", n)+"b")
		unfolds(t, strings.Repeat("\r\n\t", n)+"b"+strings.Repeat("\r\n ", n), "b")
		unfolds(t, "a"+strings.Repeat("\r\n", n)+"b", "a"+strings.Repeat("\r\n", n)+"b")
		unfolds(t, strings.Repeat("\r\n", n), "")
	}
}

// TestP11_3UnfoldBytes: a 13 10 with that byte behind it goes, if it is a blank; a byte about a text, if it is a blank, 13 or 10.
func TestP11_3UnfoldBytes(t *testing.T) {
	eachByte(func(c byte, s string) {
		want := "a\r\n" + s + "b"
		if isOneOf(c, " \t") {
			want = "a" + s + "b"
		}
		unfolds(t, "a\r\n"+s+"b", want)
		want = s + "b" + s
		if isOneOf(c, " \t\r\n") {
			want = "b"
		}
		unfolds(t, s+"b"+s, want)
		unfolds(t, " \r\n"+s+"b"+s+"\t\r\n", want)
		unfolds(t, "a"+s+"b", "a"+s+"b")
		unfolds(t, "a"+s+" b", "a"+s+" b")
		want = "a" + s + "\n b"
		if c == '\r' {
			want = "a b"
		}
		unfolds(t, "a"+s+"\n b", want)
		want = "a\r" + s + " b"
		if c == '\n' {
			want = "a b"
		}
		unfolds(t, "a\r"+s+" b", want)
	})
}

func TestP11_3Fold(t *testing.T) {
	for _, column := range []int{0, 1, 40, 70} {
		for body, want := range map[string]string{
			"": "", " ": "", "\t": "", " \t \t": "", "a": "a", " a": "a", "a ": "a", "\ta\t": "a", "a b": "a b", "a  b": "a b", "a\tb": "a b", "a \t b": "a b", "  a \t b\t": "a b", "a b c d": "a b c d",
			"\r\n": "\r\n", "a\r\nb": "a\r\nb", "a \r\n b": "a \r\n b", "\r a\n": "\r a\n", "a\rb\nc": "a\rb\nc", "\x00 \x7f": "\x00 \x7f", "\u00a0 \x80\xff": "\u00a0 \x80\xff", "\x0b\x0c": "\x0b\x0c",
		} {
			folds(t, body, column, want)
		}
	}
	eachByte(func(c byte, s string) {
		if isOneOf(c, " \t") {
			folds(t, s, 0, "")
			folds(t, s+"a"+s+s+"b"+s, 0, "a b")
			return
		}
		folds(t, s, 0, s)
		folds(t, s+"a"+s+s+"b"+s, 0, s+"a"+s+s+"b"+s)
		folds(t, "a "+s+" b", 0, "a "+s+" b")
	})
}

// TestP11_3FoldWord: no word is torn, and none is put into a new line if it is the first.
func TestP11_3FoldWord(t *testing.T) {
	for _, n := range []int{1, 76, 77, 78, 79, 80, 998, 100000} {
		for _, column := range []int{math.MinInt, -1, 0, 1, 77, 78, 79, math.MaxInt} {
			folds(t, xs(n), column, xs(n))
			folds(t, " "+xs(n)+"\t", column, xs(n))
		}
		between := "\r\n "
		if n <= 76 {
			between = " "
		}
		folds(t, xs(n)+" y", 0, xs(n)+between+"y")
		folds(t, "y  "+xs(n), 0, "y"+between+xs(n))
		folds(t, "y "+xs(n)+" z", 76, "y\r\n "+xs(n)+map[bool]string{true: " ", false: "\r\n "}[n <= 75]+"z")
	}
}

// TestP11_3FoldFits: words that just fit a line, and that are a byte too long.
func TestP11_3FoldFits(t *testing.T) {
	for column := range 79 {
		for first := 1; first < 100; first++ {
			for _, second := range []int{1, 2, 37, 38, 39, 75, 76, 77, 78} {
				between := " "
				if column+first+1+second > 78 {
					between = "\r\n "
				}
				folds(t, xs(first)+" "+xs(second), column, xs(first)+between+xs(second))
			}
		}
	}
	for second := 1; second < 79; second++ {
		for third := 1; third < 79; third++ {
			between := " "
			if 1+second+1+third > 78 {
				between = "\r\n "
			}
			folds(t, xs(78)+"\t"+xs(second)+" "+xs(third), 0, xs(78)+"\r\n "+xs(second)+between+xs(third))
		}
	}
	line := strings.Repeat(" xxxxxx", 11) // 77 bytes
	folds(t, strings.Repeat(line, 100), 1, strings.TrimPrefix(strings.Repeat(line+"\r\n", 99)+line, " "))
	folds(t, strings.Repeat(line, 100)+" y", 1, strings.TrimPrefix(strings.Repeat(line+"\r\n", 99)+line+"\r\n y", " "))
	wide := strings.Repeat(" xxxxx", 13) // 78 bytes
	folds(t, strings.Repeat(wide, 100), 1, strings.TrimPrefix(strings.Repeat(wide+"\r\n", 99)+wide, " "))
	folds(t, strings.Repeat(wide, 2), 2, wide[1:72]+"\r\n"+wide+"\r\n xxxxx")
}

// TestP11_3Column: a column below 0 is 0, one above 78 is 78.
func TestP11_3Column(t *testing.T) {
	for _, column := range []int{math.MinInt, math.MinInt32, -1000, -1, 0} {
		folds(t, xs(39)+" "+xs(38), column, xs(39)+" "+xs(38))
		folds(t, xs(39)+" "+xs(39), column, xs(39)+"\r\n "+xs(39))
	}
	folds(t, xs(39)+" "+xs(37), 1, xs(39)+" "+xs(37))
	folds(t, xs(39)+" "+xs(38), 1, xs(39)+"\r\n "+xs(38))
	folds(t, "a b", 75, "a b")
	for _, column := range []int{76, 77, 78, 79, 80, 1000, math.MaxInt32, math.MaxInt} {
		folds(t, "a b", column, "a\r\n b")
		folds(t, "a b c", column, "a\r\n b c")
		folds(t, "a "+xs(75)+" c", column, "a\r\n "+xs(75)+" c")
		folds(t, "a "+xs(76)+" c", column, "a\r\n "+xs(76)+"\r\n c")
		folds(t, "a "+xs(77)+" c", column, "a\r\n "+xs(77)+"\r\n c")
		folds(t, "a "+xs(78)+" c", column, "a\r\n "+xs(78)+"\r\n c")
		folds(t, xs(100)+" c", column, xs(100)+"\r\n c")
		folds(t, " ", column, "")
	}
}
