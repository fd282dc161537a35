package reply_test

import (
	"fmt"
	"math"
	"strings"
	"testing"

	"waybill/reply"
)

func TestP14_3Class(t *testing.T) {
	for code, want := range map[int]int{451: 4, 460: 0, 199: 0, 200: 2, 250: 2, 259: 2, 260: 0, 299: 0, 300: 3, 354: 3, 359: 3, 360: 0, 399: 0, 400: 4, 459: 4, 499: 0, 500: 5, 555: 5, 559: 5, 560: 0, 599: 0, 600: 0,
		math.MinInt: 0, math.MinInt + 1: 0, -1: 0, 0: 0, 2: 0, 25: 0, -250: 0, 1250: 0, 2500: 0, 250 + 1<<16: 0, 250 + 1<<32: 0, math.MaxInt32: 0, math.MaxInt - 1: 0, math.MaxInt: 0} {
		if got := reply.Class(code); got != want {
			t.Errorf("Class(%d): %d, not %d", code, got, want)
		}
	}
	for code := -10; code <= 1010; code++ {
		want := 0
		if codeForm.MatchString(fmt.Sprint(code)) {
			want = int(fmt.Sprint(code)[0] - '0')
		}
		if got := reply.Class(code); got != want {
			t.Errorf("Class(%d): %d, not %d", code, got, want)
		}
		if is := reply.Right(says(code, "a")); is != (want > 0) {
			t.Errorf("Right of %d: %v", code, is)
		}
	}
}

func TestP14_3Examples(t *testing.T) {
	tells(t, status{5, 1, 1, true}, "5.1.1 no such user", "5.1.1", "5.1.1 ", "5.1.1  no")
	tellsNot(t, "5.01.1", "3.1.1", "5.1.1x")
	tells(t, status{2, 0, 0, true}, "2.0.0", "2.0.0 Ok", "2.0.0 Ok: queued as Q1")
	tells(t, status{4, 7, 1, true}, "4.7.1", "4.7.1 later")
	tells(t, status{5, 999, 999, true}, "5.999.999", "5.999.999 x")
	tells(t, status{5, 0, 0, true}, "5.0.0", "5.0.0 5.1.1", "5.0.0   ")
	tells(t, status{5, 10, 100, true}, "5.10.100", "5.10.100 x")
}

// TestP14_3Behind: what stands behind the numbers, each byte.
func TestP14_3Behind(t *testing.T) {
	eachByte(func(c byte, s string) {
		for _, behind := range []string{s, s + "x", s + " ", s + " x", s + s, s + "\r\n"} {
			line := "5.1.1" + behind
			switch {
			case c == ' ':
				tells(t, status{5, 1, 1, true}, line)
			case c >= '0' && c <= '9':
				tells(t, modelStatus(line), line)
			default:
				tellsNot(t, line)
			}
		}
		tells(t, status{5, 1, 1, true}, "5.1.1 "+s, "5.1.1 x"+s, "5.1.1  "+s)
	})
	tells(t, status{5, 1, 11, true}, "5.1.11")
	tells(t, status{5, 1, 111, true}, "5.1.111", "5.1.111 x")
	tellsNot(t, "5.1.1111", "5.1.1.", "5.1.1.1", "5.1.1. x", "5.1.1.1 x", "5.1.1, x", "5.1.1\tx", "5.1.1-x", "5.1.1:x", "5.1.1\u00a0x", "5.1.1\u0661", "5.1.1\r", "5.1.1\r\n", "5.1.1\x00", "5.1.1\xff")
}

// TestP14_3First: the class, each byte.
func TestP14_3First(t *testing.T) {
	eachByte(func(c byte, s string) {
		if c == '2' || c == '4' || c == '5' {
			tells(t, status{int(c - '0'), 1, 23, true}, s+".1.23", s+".1.23 x")
		} else {
			tellsNot(t, s+".1.23", s+".1.23 x")
		}
		tellsNot(t, s+"5.1.1", "5"+s+".1.1", s+"2.0.0 x")
	})
	tellsNot(t, ".1.1", "..", "1.1", "05.1.1", "005.1.1", "52.1.1", "55.1.1", "500.1.1", "250.1.1", "-5.1.1", "+5.1.1", "5 .1.1", " 5.1.1", "5\u0660.1.1", "\u0665.1.1", "\uff15.1.1", "5x.1.1", "x5.1.1", "1.1.1", "6.1.1", "9.1.1", "0.1.1", "20.0.0", "4294967301.1.1")
}

// TestP14_3Numbers: what stands in the second and third place.
func TestP14_3Numbers(t *testing.T) {
	for n := range 1112 {
		want := status{4, n, 7, true}
		other := status{4, 7, n, true}
		if n > 999 {
			want, other = status{}, status{}
		}
		tells(t, want, fmt.Sprintf("4.%d.7", n), fmt.Sprintf("4.%d.7 x", n))
		tells(t, other, fmt.Sprintf("4.7.%d", n), fmt.Sprintf("4.7.%d x", n))
		for _, form := range []string{"4.0%d.7", "4.7.0%d", "4.00%d.7", "4.7.00%d", "4.-%d.7", "4.7.-%d", "4.+%d.7", "4.7.+%d", "4.%dx.7", "4.7.%dx", "4.x%d.7", "4.7.x%d", "4. %d.7", "4.7. %d", "4.%d .7", "4.%d,7", "4,%d.7"} {
			tellsNot(t, fmt.Sprintf(form, n), fmt.Sprintf(form, n)+" x")
		}
	}
	for _, s := range []string{"", "00", "000", "0000", "01", "001", "010", "0001", "1000", "9999", "12345", "18446744073709551617", "4294967297", "x", "xyz", "1x", "x1", "1 ", " 1", "-1", "+1", "1_0", "0x1", "1e1", "\u0661", "\uff11", "\u00b9", "1\x00", "\x00", ".", "-", "1.", ".1", "1.2", "1..2", "/", ":", "/1", "1:", "12/", "12:", "\xb1"} {
		tellsNot(t, "5."+s+".1", "5."+s+".1 x")
		if s != "1 " {
			tellsNot(t, "5.1."+s, "5.1."+s+" x")
		}
	}
	eachByte(func(c byte, s string) {
		for _, line := range []string{"5." + s + ".1", "5.1" + s + ".1", "5." + s + "1.1", "5.1" + s + "2.1", "5.1." + s, "5.1." + s + "1", "5.1.1" + s + "2"} {
			tells(t, modelStatus(line), line, line+" x")
		}
	})
}

// TestP14_3Dots: dots that are missing, others in their place, and too many.
func TestP14_3Dots(t *testing.T) {
	eachByte(func(c byte, s string) {
		if c != '.' {
			tellsNot(t, "5"+s+"1.1", "5.1"+s+"1", "5"+s+"1"+s+"1", "5"+s+"1.1 x", "5.1"+s+"1 x")
		}
	})
	tellsNot(t, "511", "51.1", "5.11", "5..1.1", "5.1..1", ".5.1.1", "5.1.1.", "5.1.1.1", "5.1.1.1.1", "5...", "...", "..", ".", "5..", "5.1.", "5..1", "5. 1.1", "5 .1.1", "5.1 .1", "5.1. 1", "5 1 1", "5,1,1", "5.1,1", "5-1-1", "5\u30021\u30021", "511 5.1.1", "x 5.1.1")
	// A dot farther on stands in what follows.
	tells(t, status{5, 1, 1, true}, "5.1.1 .", "5.1.1 a.b", "5.1.1 .1")
}

func TestP14_3Beginnings(t *testing.T) {
	tellsNot(t, "", "5", "5.", "5.1", "5.1.", "2.0", "4.7.", "5.999", "5.999.", " ", "5 ", "5. ", "5.1 ", "5.1. ", "x", "\x00")
	for _, line := range []string{"5.1.1 no such user", "2.0.0", "5.999.999", "4.10.100 x"} {
		for i := range len(line) + 1 {
			tells(t, modelStatus(line[:i]), line[:i])
			tells(t, modelStatus(line[i:]), line[i:])
		}
	}
	for _, great := range []string{xs(1 << 20), strings.Repeat(" ", 1<<20), strings.Repeat(".", 1<<20), strings.Repeat("1", 1<<20), strings.Repeat("5.1.1 ", 1<<18)} {
		tells(t, status{5, 1, 1, true}, "5.1.1 "+great)
		tells(t, modelStatus("5.1.1"+great), "5.1.1"+great)
		tells(t, modelStatus(great), great)
		tellsNot(t, "5."+great, "5.1x"+great)
	}
}
