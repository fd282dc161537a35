package lines_test

import (
	"strings"
	"testing"

	"waybill/api"
)

// TestP12_2Examples: the chapter's.
func TestP12_2Examples(t *testing.T) {
	may(t, ".a\r\n", "..a\r\n.\r\n")
	may(t, "", ".\r\n")
	mayNot(t, api.ErrLineBare, "a")
	dots(t, ".", "", true)
	dots(t, "..a", ".a", false)
	dots(t, "a", "a", false)
}

func TestP12_2May(t *testing.T) {
	may(t, "\r\n", "\r\n.\r\n")
	may(t, "\r\n\r\n", "\r\n\r\n.\r\n")
	may(t, "a\r\n", "a\r\n.\r\n")
	may(t, "A: b\r\n c\r\n\r\nx\r\n\r\n", "A: b\r\n c\r\n\r\nx\r\n\r\n.\r\n")
	may(t, " \r\n\t\r\n", " \r\n\t\r\n.\r\n")
	may(t, "\x01\x7f\x80\xff\u00e9\r\n", "\x01\x7f\x80\xff\u00e9\r\n.\r\n")
	may(t, "\u0085\u2028\u2029\v\f\r\n", "\u0085\u2028\u2029\v\f\r\n.\r\n")
}

// TestP12_2Dots: lines that begin with a dot, alone and several in a row.
func TestP12_2Dots(t *testing.T) {
	for data, sent := range map[string]string{
		".":          "..",
		"..":         "...",
		"...":        "....",
		".a":         "..a",
		"..a":        "...a",
		"a.":         "a.",
		"a.b":        "a.b",
		" .":         " .",
		"\t.a":       "\t.a",
		"":           "",
		". ":         ".. ",
		".\x80":      "..\x80",
		"\uff0e":     "\uff0e",
		xs(998):      xs(998),
		"." + "\xff": "..\xff",
	} {
		may(t, data+"\r\n", sent+"\r\n.\r\n")
		may(t, data+"\r\n"+data+"\r\n", sent+"\r\n"+sent+"\r\n.\r\n")
		may(t, "a\r\n"+data+"\r\n", "a\r\n"+sent+"\r\n.\r\n")
		may(t, data+"\r\n\r\n", sent+"\r\n\r\n.\r\n")
		may(t, "\r\n"+data+"\r\na\r\n"+data+"\r\n", "\r\n"+sent+"\r\na\r\n"+sent+"\r\n.\r\n")
		may(t, strings.Repeat(data+"\r\n", 5), strings.Repeat(sent+"\r\n", 5)+".\r\n")
	}
	may(t, "a.\r\n.\r\n..\r\n.a\r\n\r\n", "a.\r\n..\r\n...\r\n..a\r\n\r\n.\r\n")
}

// TestP12_2Bare: a 13 or a 10 that stands otherwise than it may, and contents that end with no line's end.
func TestP12_2Bare(t *testing.T) {
	for _, odd := range []string{
		"\r", "\n", "\n\r", "\r\r\n", "\n\n", "\r\r", "\n\r\n", "\r\n\r", "\r\n\n", "\r\n\n\r", "\r\n\r\r\n", "\n\r\r\n",
		"a", "a\r", "a\n", "a\n\r", "a\rb\r\n", "a\nb\r\n", "\ra\r\n", "\na\r\n", "a\r\nb", "a\r\nb\r", "a\r\nb\n", "a\r\r\n", "a\r\n.", ".", "..", ".\n", ".\r", "\r.\r\n", "\n.\r\n",
	} {
		mayNot(t, api.ErrLineBare, odd)
		mayNot(t, api.ErrLineBare, "x\r\n"+odd)
		mayNot(t, api.ErrLineBare, "\r\n"+odd)
		mayNot(t, api.ErrLineBare, odd+"x")
		mayNot(t, api.ErrLineBare, odd+"x\r\n"+odd)
		mayNot(t, api.ErrLineBare, xs(998)+"\r\n"+odd)
	}
	for _, odd := range []string{"\r", "\n\r", "\n", "\r\r\n", "\n\n", "\n\r\n"} {
		mayNot(t, api.ErrLineBare, odd+"x\r\n")
		mayNot(t, api.ErrLineBare, "x\r\n"+odd+"x\r\n")
		mayNot(t, api.ErrLineBare, "x"+odd+"x\r\n")
	}
	mayNot(t, api.ErrLineBare, xs(998))
	mayNot(t, api.ErrLineBare, strings.Repeat("x\r\n", 100000)+"x")
	mayNot(t, api.ErrLineBare, strings.Repeat("x\r\n", 100000)+"\n")
}

func TestP12_2Nul(t *testing.T) {
	for _, data := range []string{"\x00", "\x00\r\n", "a\x00b\r\n", "a\r\n\x00\r\n", "a\r\n\x00", "a\r\nb\x00\r\n", "\r\x00\n", "\x00\x00\r\n", ".\x00\r\n", "\x00.\r\n", "\r\n\x00", xs(998) + "\r\n\x00\r\n"} {
		mayNot(t, api.ErrLineNul, data)
		mayNot(t, api.ErrLineNul, data+"a\r\n")
		mayNot(t, api.ErrLineNul, "a\r\n"+data)
	}
}

// TestP12_2Byte: each byte in a content.
func TestP12_2Byte(t *testing.T) {
	eachByte(func(c byte, s string) {
		for _, front := range []string{"", "a", "a\r\n", "a\r\nb"} {
			for _, back := range []string{"\r\n", "z\r\n", "\r\nz\r\n"} {
				data := front + s + back
				switch c {
				case 0:
					mayNot(t, api.ErrLineNul, data)
				case '\r', '\n':
					mayNot(t, api.ErrLineBare, data)
				case '.':
					may(t, data, modelStuff(data))
				default:
					may(t, data, data+".\r\n")
				}
			}
			if c == 0 {
				mayNot(t, api.ErrLineNul, front+s)
			} else {
				mayNot(t, api.ErrLineBare, front+s)
			}
		}
	})
}

// TestP12_2Long: lines of just as many bytes as they may have, and of one more, wherever they stand.
func TestP12_2Long(t *testing.T) {
	for _, size := range []int{1, 996, 997, 998, 999, 1000, 1001, 5000, 65536, 100000} {
		for _, line := range []string{xs(size), "." + xs(size-1), strings.Repeat(".", size), strings.Repeat("\xff", size), strings.Repeat(" ", size)} {
			for _, front := range []string{"", "a\r\n", "\r\n", ".\r\n", xs(998) + "\r\n"} {
				for _, back := range []string{"", "a\r\n", "\r\n", ".\r\n", xs(998) + "\r\n"} {
					data := front + line + "\r\n" + back
					if size > 998 {
						mayNot(t, api.ErrLineLong, data)
					} else {
						may(t, data, modelStuff(data))
					}
				}
			}
		}
	}
	may(t, "."+xs(997)+"\r\n", ".."+xs(997)+"\r\n.\r\n")
	many := strings.Repeat(xs(998)+"\r\n", 1048)
	may(t, many, many+".\r\n")
	mayNot(t, api.ErrLineLong, many+xs(999)+"\r\n")
	mayNot(t, api.ErrLineLong, xs(999)+"\r\n"+many)
}

// TestP12_2First: a byte 0 is told ahead of what is bare, and that ahead of what is too long, whatever stands first.
func TestP12_2First(t *testing.T) {
	for _, size := range []int{999, 1000, 5000} {
		great := xs(size) + "\r\n"
		for _, odd := range []string{"\r", "\n", "a\r", "a\nb\r\n", "\r\r\n", "\n\r", "a"} {
			mayNot(t, api.ErrLineBare, great+odd)
			mayNot(t, api.ErrLineBare, great+"a\r\n"+odd)
			mayNot(t, api.ErrLineBare, great+odd+great+"a")
			mayNot(t, api.ErrLineBare, xs(size)+odd+"\r")
			mayNot(t, api.ErrLineNul, great+odd+"\x00")
			mayNot(t, api.ErrLineNul, "\x00"+odd+great)
			mayNot(t, api.ErrLineNul, odd+"\x00"+great)
			mayNot(t, api.ErrLineNul, odd+great+"\x00")
			mayNot(t, api.ErrLineNul, odd+"\x00")
			mayNot(t, api.ErrLineNul, "\x00"+odd)
			mayNot(t, api.ErrLineNul, odd+"a\r\nb\x00\r\n")
		}
		for _, odd := range []string{"\r", "\n", "\n\r", "a\rb", "a\nb"} {
			mayNot(t, api.ErrLineBare, odd+great)
			mayNot(t, api.ErrLineBare, xs(500)+odd+great)
		}
		mayNot(t, api.ErrLineBare, xs(size))
		mayNot(t, api.ErrLineBare, xs(size)+"\n")
		mayNot(t, api.ErrLineBare, xs(size)+"\r")
		mayNot(t, api.ErrLineNul, great+"\x00")
		mayNot(t, api.ErrLineNul, "\x00"+great)
		mayNot(t, api.ErrLineNul, xs(size)+"\x00\r\n")
		mayNot(t, api.ErrLineNul, xs(size)+"\x00")
	}
}

func TestP12_2Dotted(t *testing.T) {
	for line, want := range map[string]string{
		"": "", "..": ".", ".a": "a", "a": "a", "...": "..", "a.": "a.", " .": " .", ". ": " ", ".\r": "\r", ".\r\n": "\r\n", ".\n": "\n", ".\x00": "\x00",
		"\x00": "\x00", "\r\n": "\r\n", "\r": "\r", "a\r\n.": "a\r\n.", "\n.": "\n.", ".a\r\n.b": "a\r\n.b", "\uff0e": "\uff0e", ".." + xs(997): "." + xs(997), "." + xs(1<<20): xs(1 << 20), xs(1 << 20): xs(1 << 20),
	} {
		dots(t, line, want, false)
	}
	eachByte(func(c byte, s string) {
		dots(t, "."+s, s, false)
		dots(t, "a"+s, "a"+s, false)
		dots(t, "."+s+"b", s+"b", false)
		switch c {
		case '.':
			dots(t, s, "", true)
			dots(t, s+"b", "b", false)
		default:
			dots(t, s, s, false)
			dots(t, s+".", s+".", false)
		}
	})
}
