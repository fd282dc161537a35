package reply_test

import (
	"strings"
	"testing"

	"waybill/api"
)

func TestP14_2Examples(t *testing.T) {
	reads(t, says(250, ""), 5, "250\r\n")
	fails(t, api.ErrReplyForm, "250-a\r\n251 b\r\n", "250 Ok\n")
	reads(t, says(250, "Ok"), 8, "250 Ok\r\n")
	reads(t, says(250, "a", "b"), 14, "250-a\r\n250 b\r\n")
}

// TestP14_2Behind: whatever stands behind a reply is left there.
func TestP14_2Behind(t *testing.T) {
	for _, behind := range []string{"", "\r\n", "\n", "\r", " ", "x", "250", "250 b\r\n", "250-b\r\n", "251 b\r\n", "999 b\r\n", "\x00", "\xff", xs(511), xs(512), xs(2000), rows(60), "\r\n.\r\n"} {
		reads(t, says(250, "a"), 7, "250 a\r\n"+behind)
		reads(t, says(250, ""), 5, "250\r\n"+behind)
		reads(t, says(250, "a", "b", "c"), 21, "250-a\r\n250-b\r\n250 c\r\n"+behind)
		reads(t, says(250, "a", ""), 12, "250-a\r\n250\r\n"+behind)
		reads(t, says(250, as(50)...), 350, rows(49)+"250 a\r\n"+behind)
	}
	eachByte(func(_ byte, s string) {
		reads(t, says(250, "a"), 7, "250 a\r\n"+s, "250 a\r\n"+s+s, "250 a\r\n"+s+"\r\n")
		reads(t, says(250, "a", ""), 12, "250-a\r\n250\r\n"+s)
	})
}

func TestP14_2Short(t *testing.T) {
	fails(t, api.ErrReplyShort, "", "x", "\r", " ", "-", "2", "25", "250", "250 ", "250-", "250 a", "250 a\r", "2501", "999 a", "\x00", "\xff", xs(2), xs(510), xs(511))
	for _, s := range []string{"250 Ok\r\n", "250\r\n", "250-a\r\n250 b\r\n", "250-a\r\n250-\r\n250-" + xs(506) + "\r\n250\r\n", "559-" + xs(506) + "\r\n559 " + xs(506) + "\r\n", rows(49) + "250 a\r\n"} {
		for i := range len(s) {
			fails(t, api.ErrReplyShort, s[:i])
		}
		same(t, s)
	}
	for n := 1; n <= 50; n++ {
		fails(t, api.ErrReplyShort, rows(n), rows(n)+"2", rows(n)+"250 a\r", rows(n)+"x", rows(n)+xs(511))
	}
}

// TestP14_2Alone: three digits and the line's end are a blank and no text.
func TestP14_2Alone(t *testing.T) {
	reads(t, says(354, ""), 5, "354\r\n", "354\r\n354 b\r\n", "354\r\n354\r\n")
	reads(t, says(354, ""), 6, "354 \r\n", "354 \r\n354 b\r\n")
	reads(t, says(354, "a", "b", ""), 19, "354-a\r\n354-b\r\n354\r\n")
	reads(t, says(354, "", ""), 11, "354-\r\n354\r\n")
	reads(t, says(354, "", ""), 12, "354-\r\n354 \r\n")
	reads(t, says(354, as(49, "")...), 49*7+5, strings.ReplaceAll(rows(49), "250", "354")+"354\r\n")
	fails(t, api.ErrReplyForm, "99\r\n", "\r\n", "2\r\n", "25\r\n", "2500\r\n", "260\r\n", "199\r\n", "354\r\r\n", "354\n", "354-a\r\n355\r\n", "354-a\r\n35\r\n", "354-a\r\n\r\n", "354-a\r\n3540\r\n", "354-a\r\n354\n")
	fails(t, api.ErrReplyShort, "354", "354\r", "354-a\r\n354", "354-a\r\n354\r")
}

// TestP14_2Mark: what stands behind the digits, each byte.
func TestP14_2Mark(t *testing.T) {
	eachByte(func(c byte, s string) {
		for _, text := range []string{"", "a", " ", "-"} {
			first, further := "250"+s+text+"\r\n", "250-z\r\n250"+s+text+"\r\n"
			switch c {
			case '-':
				fails(t, api.ErrReplyShort, first, further)
				reads(t, says(250, text, "b"), len(first)+7, first+"250 b\r\n")
				reads(t, says(250, "z", text, "b"), len(further)+7, further+"250 b\r\n")
			case ' ':
				reads(t, says(250, text), len(first), first, first+"250 b\r\n")
				reads(t, says(250, "z", text), len(further), further, further+"250 b\r\n")
			case '\n':
				// The line ends there, without a 13.
				fails(t, api.ErrReplyForm, first, further)
			default:
				fails(t, api.ErrReplyForm, first, further, first+"250 b\r\n", further+"250 b\r\n")
			}
		}
	})
	reads(t, says(250, "-a"), 8, "250 -a\r\n")
	reads(t, says(250, " a", " b"), 16, "250- a\r\n250  b\r\n")
}

// TestP14_2Code: codes of the first line and of further ones.
func TestP14_2Code(t *testing.T) {
	fails(t, api.ErrReplyForm, "260 a\r\n", "290 a\r\n", "299-a\r\n", "199 a\r\n", "100 a\r\n", "000 a\r\n", "600 a\r\n", "560 a\r\n", "999 a\r\n", "25 a\r\n", "2 a\r\n", " a\r\n", "-a\r\n", "a\r\n", "2500 a\r\n", "0250 a\r\n", "1250 a\r\n", " 250 a\r\n", "+25 a\r\n", "-25 a\r\n", "2.5 a\r\n", "0x2 a\r\n", "25\u0660 a\r\n", "\u0662\u0665\u0660 a\r\n", "\uff12\uff15\uff10 a\r\n", "2_5 a\r\n", "2e2 a\r\n")
	for _, other := range []string{"251", "249", "350", "550", "220", "200", "260", "999", "000", "25", "2500", "0250", "1250", " 250", "2", "", "x", "xyz", "25x", "x50", "2x0", "+25", "-50"} {
		fails(t, api.ErrReplyForm, "250-a\r\n"+other+" b\r\n", "250-a\r\n"+other+"-b\r\n", "250-a\r\n"+other+"\r\n", "250-a\r\n250-b\r\n"+other+" c\r\n", "250-a\r\n250-b\r\n"+other+"-c\r\n250 d\r\n", rows(49)+other+" c\r\n", rows(50)+other+" c\r\n", rows(50)+other+"-c\r\n")
	}
	for n := range 1000 {
		code := string([]byte{byte('0' + n/100), byte('0' + n/10%10), byte('0' + n%10)})
		if modelRight(says(n, "a")) {
			reads(t, says(n, "a"), 7, code+" a\r\n")
			reads(t, says(n, "a", "b"), 14, code+"-a\r\n"+code+" b\r\n")
			reads(t, says(n, ""), 5, code+"\r\n")
		} else {
			fails(t, api.ErrReplyForm, code+" a\r\n", code+"-a\r\n", code+"\r\n", code+"-a\r\n"+code+" b\r\n")
		}
		if n != 250 {
			fails(t, api.ErrReplyForm, "250-a\r\n"+code+" b\r\n", "250-a\r\n250-b\r\n"+code+"-c\r\n")
		}
	}
	eachByte(func(c byte, s string) {
		for i := range 3 {
			code := "250"[:i] + s + "250"[i+1:]
			same(t, code+" a\r\n", code+"\r\n", code+"-a\r\n250 b\r\n", "250-a\r\n"+code+" b\r\n", "250-a\r\n"+code+"-b\r\n250 c\r\n", code+"-a\r\n"+code+" b\r\n")
		}
	})
}

// TestP14_2End: lines that end otherwise, and 10 and 13 within.
func TestP14_2End(t *testing.T) {
	for _, ahead := range []string{"", "250-z\r\n", rows(49), rows(50)} {
		for _, text := range []string{"", " ", "-", " a", "-a", " " + xs(500)} {
			line := ahead + "250" + text
			fails(t, api.ErrReplyForm, line+"\n", line+"\r\r\n", line+"\n\r", line+"\n\r\n", line+"\n250 a\r\n", line+" \n", line+"\t\n", line+"\x00\n", line+"\x00\r\n", line+"\r\x00\r\n", line+"\r \r\n", line+"\u0085\r\n")
			fails(t, api.ErrReplyShort, line, line+"\r", line+"\r\r", line+"\rx", line+"\r\x00", line+"\u0085")
		}
		fails(t, api.ErrReplyForm, ahead+"250 a\rb\r\n", ahead+"250 a\nb\r\n", ahead+"250\r a\r\n", ahead+"250\n a\r\n", ahead+"2\r50 a\r\n", ahead+"2\n50 a\r\n", ahead+"\r\n250 a\r\n", ahead+"\n250 a\r\n", ahead+"\r250 a\r\n", ahead+"250 a\r250 b\r\n", ahead+"250-a\n250 b\r\n", ahead+"\n", ahead+"\r\n", ahead+"\n\r\n")
	}
}

// TestP14_2Bytes: each byte in each place of a line's text.
func TestP14_2Bytes(t *testing.T) {
	eachByte(func(c byte, s string) {
		for _, text := range []string{s, s + "b", "a" + s + "b", "a" + s, xs(505) + s, s + xs(505)} {
			l := []string{"250 " + text + "\r\n", "250-" + text + "\r\n250 b\r\n", "250-a\r\n250-" + text + "\r\n250 b\r\n", "250-a\r\n250 " + text + "\r\n"}
			if c == 9 || c >= 32 && c <= 126 {
				reads(t, says(250, text), len(l[0]), l[0])
				reads(t, says(250, text, "b"), len(l[1]), l[1])
				reads(t, says(250, "a", text, "b"), len(l[2]), l[2])
				reads(t, says(250, "a", text), len(l[3]), l[3])
			} else {
				fails(t, api.ErrReplyForm, l...)
			}
		}
	})
	for _, text := range []string{"\u00e9", "\u0661", "\u2028", "\ufeff", "\ufffd", "\U0001f600", "\xc3", "\u0141"} {
		fails(t, api.ErrReplyForm, "250 "+text+"\r\n", "250 a"+text+"b\r\n", "250-a\r\n250 "+text+"\r\n", text+"\r\n", text+"250 a\r\n", "250"+text+"a\r\n")
	}
}

// TestP14_2Length: lines up to the 10 of so many bytes, and bytes without any 10.
func TestP14_2Length(t *testing.T) {
	for _, ahead := range []string{"", "250-z\r\n", rows(49)} {
		lines := as(strings.Count(ahead, "\n"))
		if len(ahead) == 7 {
			lines[0] = "z"
		}
		reads(t, says(250, append(lines, "")...), len(ahead)+5, ahead+"250\r\n")
		for _, n := range []int{6, 7, 100, 510, 511, 512} {
			text := xs(n - 6)
			reads(t, says(250, append(lines, text)...), len(ahead)+n, ahead+"250 "+text+"\r\n", ahead+"250 "+text+"\r\n"+xs(600))
		}
		for _, behind := range []string{"", "250 a\r\n", "\n", xs(600)} {
			for _, n := range []int{513, 514, 515, 516, 600, 998, 1000, 1024, 1 << 16} {
				fails(t, api.ErrReplyLong, ahead+"250 "+xs(n-6)+"\r\n"+behind, ahead+"250-"+xs(n-6)+"\r\n"+behind, ahead+xs(n-2)+"\r\n"+behind, ahead+xs(n-1)+"\n"+behind)
			}
			for _, n := range []int{1, 2, 5, 6, 510, 511, 512} {
				fails(t, api.ErrReplyForm, ahead+xs(n-1)+"\n"+behind, ahead+xs(max(n-2, 0))+"\r\n"+behind)
			}
		}
		for _, n := range []int{1, 2, 3, 4, 5, 6, 100, 510, 511} {
			fails(t, api.ErrReplyShort, ahead+xs(n), ahead+strings.Repeat("\r", n), ahead+strings.Repeat("\x00", n), ahead+("250 " + xs(n))[:n], ahead+("250-" + xs(n))[:n], ahead+strings.Repeat("250 a\r", n)[:n])
		}
		for _, n := range []int{512, 513, 514, 600, 1024, 1 << 16, 1 << 22} {
			fails(t, api.ErrReplyLong, ahead+xs(n), ahead+strings.Repeat("\r", n), ahead+strings.Repeat("\x00", n), ahead+"250 "+xs(n-4), ahead+"250-"+xs(n-4), ahead+strings.Repeat("250 a\r", n)[:n])
		}
	}
}

// TestP14_2First: which of several errors is told.
func TestP14_2First(t *testing.T) {
	// A wrong line, and too few bytes behind it, or too many.
	fails(t, api.ErrReplyForm, "260-a\r\n", "250-a\n", "250_a\r\n250", "250-a\r\n251-b\r\n", "250-a\r\n250-b\n", "250-a\r\n\r\n250 ", "x\n"+xs(600), "250-a\r\nx\n"+xs(600), "x\n"+rows(60))
	// Too few bytes, and what stands there may not.
	fails(t, api.ErrReplyShort, "xyz", "260 a", "250-a\r\n251 b", "250-a\r\n251 b\r", "250-a\r\n"+xs(511))
	fails(t, api.ErrReplyLong, "xyz"+xs(509), "260 "+xs(508), "250-a\r\n251 "+xs(508), "250-a\r\n"+strings.Repeat("\x00", 512))
	// The 51st line.
	fails(t, api.ErrReplyLong, rows(50)+"250 a\r\n", rows(50)+"250-a\r\n", rows(50)+"250\r\n", rows(51), rows(50)+"250-a\r\nx\n", rows(50)+"250 "+xs(506)+"\r\n", rows(50)+"250 "+xs(507)+"\r\n", rows(50)+xs(512), rows(50)+xs(512)+"\n", rows(50)+"250 "+xs(600))
	fails(t, api.ErrReplyForm, rows(50)+"250 a\n", rows(50)+"251 a\r\n", rows(50)+"260 a\r\n", rows(50)+"\r\n", rows(50)+"\n", rows(50)+"x\r\n", rows(50)+"250_a\r\n", rows(50)+"250 \x00\r\n", rows(50)+xs(511)+"\n")
	fails(t, api.ErrReplyShort, rows(50), rows(50)+"2", rows(50)+"250 a", rows(50)+"250 a\r", rows(50)+"x", rows(50)+xs(511))
}

// TestP14_2Many: how many lines there may be.
func TestP14_2Many(t *testing.T) {
	for n := 1; n <= 50; n++ {
		reads(t, says(250, as(n)...), 7*n, rows(n-1)+"250 a\r\n", rows(n-1)+"250 a\r\n"+rows(60), rows(n-1)+"250 a\r\n250 a\r\n")
		reads(t, says(250, as(n-1, "")...), 7*n-2, rows(n-1)+"250\r\n", rows(n-1)+"250\r\nx")
	}
	fails(t, api.ErrReplyShort, rows(48), rows(49), rows(50))
	for n := 51; n < 60; n++ {
		fails(t, api.ErrReplyLong, rows(n-1)+"250 a\r\n", rows(n-1)+"250\r\n", rows(n), rows(n)+"x", rows(n)+"x\n")
	}
	fails(t, api.ErrReplyLong, rows(1<<16), strings.Repeat("250-\r\n", 51), strings.Repeat("250-"+xs(506)+"\r\n", 51))
	fails(t, api.ErrReplyShort, strings.Repeat("250-\r\n", 50), strings.Repeat("250-"+xs(506)+"\r\n", 50))
}
