package reply_test

import (
	"fmt"
	"math"
	"slices"
	"strconv"
	"strings"
	"testing"
)

func TestP14_1Examples(t *testing.T) {
	prints(t, says(250, "Ok"), "250 Ok\r\n")
	prints(t, says(250, "a", "b"), "250-a\r\n250 b\r\n")
	prints(t, says(354, "a", "", "c"), "354-a\r\n354-\r\n354 c\r\n")
	prints(t, says(550, ""), "550 \r\n")
	prints(t, says(451, "", ""), "451-\r\n451 \r\n")
	prints(t, says(220, "-a", " b", " ", "-"), "220--a\r\n220- b\r\n220- \r\n220 -\r\n")
}

func TestP14_1Code(t *testing.T) {
	for _, code := range []int{200, 209, 210, 250, 255, 259, 300, 309, 354, 355, 359, 400, 421, 450, 459, 500, 509, 550, 555, 559} {
		prints(t, says(code, "a"), strconv.Itoa(code)+" a\r\n")
		prints(t, says(code, "a", "b"), fmt.Sprintf("%d-a\r\n%d b\r\n", code, code))
	}
	for _, code := range []int{math.MinInt, math.MinInt + 1, math.MinInt32, -250, -200, -1, 0, 1, 2, 9, 20, 25, 99, 100, 150, 155, 159, 199, 260, 265, 269, 270, 280, 290, 299, 360, 399, 460, 499, 560, 599, 600, 601, 650, 700, 999, 1000, 1200, 1250, 2000, 2500, 2509, 25000, 250 + 1<<16, 250 + 1<<32, math.MaxInt32, math.MaxInt - 1, math.MaxInt} {
		printsNot(t, says(code, "a"), says(code, "a", "b"), says(code))
	}
	for code := -10; code <= 1010; code++ {
		if hundreds, tens := code/100, code/10%10; code > 0 && hundreds >= 2 && hundreds <= 5 && tens <= 5 {
			prints(t, says(code, "a"), strconv.Itoa(code)+" a\r\n")
		} else {
			printsNot(t, says(code, "a"))
		}
	}
}

func TestP14_1Lines(t *testing.T) {
	printsNot(t, says(250), says(0), says(200), says(559))
	for n := 1; n <= 50; n++ {
		prints(t, says(250, as(n)...), rows(n-1)+"250 a\r\n")
		prints(t, says(559, slices.Repeat([]string{""}, n)...), strings.Repeat("559-\r\n", n-1)+"559 \r\n")
	}
	printsNot(t, says(250, as(51)...), says(250, as(52)...), says(250, as(100)...), says(250, as(256)...), says(250, as(257)...), says(250, as(1<<16+1)...), says(250, as(1<<20)...))
	printsNot(t, says(250, make([]string, 51)...), says(250, as(50, "")...), says(250, slices.Repeat([]string{xs(506)}, 51)...))
	prints(t, says(250, slices.Repeat([]string{xs(506)}, 50)...), strings.Repeat("250-"+xs(506)+"\r\n", 49)+"250 "+xs(506)+"\r\n")
}

func TestP14_1Length(t *testing.T) {
	for _, n := range []int{0, 1, 2, 3, 70, 255, 256, 257, 500, 504, 505, 506} {
		text := xs(n)
		prints(t, says(250, text), "250 "+text+"\r\n")
		prints(t, says(250, text, "b", "c"), "250-"+text+"\r\n250-b\r\n250 c\r\n")
		prints(t, says(250, "a", text, "c"), "250-a\r\n250-"+text+"\r\n250 c\r\n")
		prints(t, says(250, "a", "b", text), "250-a\r\n250-b\r\n250 "+text+"\r\n")
		prints(t, says(250, as(49, text)...), rows(49)+"250 "+text+"\r\n")
	}
	for _, n := range []int{507, 508, 509, 510, 511, 512, 513, 998, 1000, 1 << 16, 1<<16 + 1, 1 << 20} {
		text := xs(n)
		printsNot(t, says(250, text), says(250, text, "b", "c"), says(250, "a", text, "c"), says(250, "a", "b", text), says(250, as(49, text)...), says(250, text, ""), says(250, "", text), says(250, xs(506), text))
	}
	for _, c := range []string{"\t", " ", "~", "-", "0"} {
		prints(t, says(250, strings.Repeat(c, 506)), "250 "+strings.Repeat(c, 506)+"\r\n")
		printsNot(t, says(250, strings.Repeat(c, 507)))
	}
	printsNot(t, says(250, strings.Repeat("\u00e9", 253)), says(250, strings.Repeat("\u00e9", 300)))
}

// TestP14_1Bytes: each byte in each place of a line, and of lines.
func TestP14_1Bytes(t *testing.T) {
	eachByte(func(c byte, s string) {
		for _, text := range []string{s, s + "b", "a" + s + "b", "a" + s, s + s, xs(505) + s, s + xs(505), xs(200) + s + xs(300)} {
			if c == 9 || c >= 32 && c <= 126 {
				prints(t, says(250, text), "250 "+text+"\r\n")
				prints(t, says(250, text, "b"), "250-"+text+"\r\n250 b\r\n")
				prints(t, says(250, "a", text, "b"), "250-a\r\n250-"+text+"\r\n250 b\r\n")
				prints(t, says(250, "a", text), "250-a\r\n250 "+text+"\r\n")
			} else {
				printsNot(t, says(250, text), says(250, text, "b"), says(250, "a", text, "b"), says(250, "a", text), says(250, text, text))
			}
		}
	})
	for _, text := range []string{"\r\n", "a\r\n", "a\r\n250 b", "\n", "\u00e9", "a\u00e9", "\u0661", "\u2028", "\ufeff", "\ufffd", "\uff21", "\U0001f600", "\U00010041", "\xc3", "\xc1\x81", "\xed\xa0\x80", "\u0141", "\u0120"} {
		printsNot(t, says(250, text), says(250, "a"+text), says(250, text+"b"), says(250, "a", text), says(250, text, "b"))
	}
	prints(t, says(250, `!"#$%&'()*+,-./0123456789:;<=>?@ABCDEFGHIJKLMNOPQRSTUVWXYZ[\]^_`+"`abcdefghijklmnopqrstuvwxyz{|}~ \t"), "250 !\"#$%&'()*+,-./0123456789:;<=>?@ABCDEFGHIJKLMNOPQRSTUVWXYZ[\\]^_`abcdefghijklmnopqrstuvwxyz{|}~ \t\r\n")
}
