package header_test

import (
	"slices"
	"strings"
	"testing"

	"waybill/api"
	"waybill/header"
)

func TestP11_4Write(t *testing.T) {
	writes(t, "To", "a b", "To: a b\r\n")
	writes(t, "To", " a   b\t", "To: a b\r\n")
	writes(t, "X-y!", "a\tb", "X-y!: a b\r\n")
	writes(t, "a", ":", "a: :\r\n")
	writes(t, "a", "b: c", "a: b: c\r\n")
	writes(t, "a", "\x80\xff \u00e9", "a: \x80\xff \u00e9\r\n")
	for _, body := range []string{"", " ", "\t", " \t  \t"} {
		writes(t, "A", body, "A: \r\n")
		writes(t, "Received", body, "Received: \r\n")
	}
}

// TestP11_4Body: each byte in a body.
func TestP11_4Body(t *testing.T) {
	eachByte(func(c byte, s string) {
		bodies := []string{s, s + "a", "a" + s + "b", "a" + s, "a " + s + " b", s + " "}
		switch {
		case c < 32 && c != 9 || c == 127:
			for _, body := range bodies {
				noWrite(t, api.ErrHeaderForm, "A", body)
			}
		case c == ' ' || c == 9:
			for i, want := range []string{"", "a", "a b", "a", "a b", ""} {
				writes(t, "A", bodies[i], "A: "+want+"\r\n")
			}
		default:
			for i, want := range []string{s, s + "a", "a" + s + "b", "a" + s, "a " + s + " b", s} {
				writes(t, "A", bodies[i], "A: "+want+"\r\n")
			}
		}
	})
	for _, body := range []string{"\r\n", "a\r\n b", "a\r\nB: c", "a\r\n", "\r\n a", "\x00", "\x1f", "\x7f", xs(500) + "\n"} {
		noWrite(t, api.ErrHeaderForm, "A", body)
	}
}

// TestP11_4Name: each byte in a name.
func TestP11_4Name(t *testing.T) {
	eachByte(func(c byte, s string) {
		for _, name := range []string{s, s + "a", "a" + s + "b", "a" + s} {
			if isOneOf(c, ofNames) {
				writes(t, name, "x", name+": x\r\n")
				writes(t, name, "", name+": \r\n")
			} else {
				noWrite(t, api.ErrHeaderForm, name, "x")
				noWrite(t, api.ErrHeaderForm, name, "")
			}
		}
	})
	for _, name := range []string{"", "T o", "To:", ":", " To", "To ", "To\r\n", "\r\nTo", "\u00e9"} {
		noWrite(t, api.ErrHeaderForm, name, "")
		noWrite(t, api.ErrHeaderForm, name, "x")
		noWrite(t, api.ErrHeaderForm, name, "\n")
	}
}

// TestP11_4Fold: a body is folded from the column behind the name's `: ` on.
func TestP11_4Fold(t *testing.T) {
	for name := 1; name < 90; name++ {
		for first := 1; first < 80; first++ {
			for _, second := range []int{1, 30, 77} {
				between := " "
				if name+2+first+1+second > 78 {
					between = "\r\n "
				}
				body := xs(first) + "  " + xs(second)
				want := strings.Repeat("n", name) + ": " + xs(first) + between + xs(second) + "\r\n"
				writes(t, strings.Repeat("n", name), body, want)
			}
		}
	}
	writes(t, "A", xs(75)+" "+xs(77)+" "+xs(78)+" y "+xs(75)+" "+xs(76), "A: "+xs(75)+"\r\n "+xs(77)+"\r\n "+xs(78)+"\r\n y "+xs(75)+"\r\n "+xs(76)+"\r\n")
	writes(t, "A", strings.Repeat("x ", 39), "A: "+strings.Repeat("x ", 37)+"x\r\n x\r\n")
	writes(t, "A", strings.Repeat("x ", 38), "A: "+strings.Repeat("x ", 37)+"x\r\n")
}

// TestP11_4Long: lines of 998 bytes and of one more, as the first one, as a later one, as the last one.
func TestP11_4Long(t *testing.T) {
	for name := 1; name < 20; name++ {
		n := strings.Repeat("n", name)
		fits := 998 - 2 - name
		writes(t, n, xs(fits), n+": "+xs(fits)+"\r\n")
		writes(t, n, xs(fits)+" y", n+": "+xs(fits)+"\r\n y\r\n")
		writes(t, n, "y "+xs(997), n+": y\r\n "+xs(997)+"\r\n")
		writes(t, n, "y "+xs(997)+" "+xs(997)+" z", n+": y\r\n "+xs(997)+"\r\n "+xs(997)+"\r\n z\r\n")
		writes(t, n, xs(fits)+" "+xs(997), n+": "+xs(fits)+"\r\n "+xs(997)+"\r\n")
		for _, body := range []string{
			xs(fits + 1), xs(fits+1) + " y", "y " + xs(998), "y " + xs(998) + " z", "y z " + xs(997) + " " + xs(998), xs(fits+1) + " " + xs(997), xs(100000), "y " + xs(100000) + " z",
			strings.Repeat("y ", 500) + xs(998), xs(fits+1) + " ", "\t" + xs(fits+1), strings.Repeat(" ", 100) + xs(fits+1),
		} {
			noWrite(t, api.ErrHeaderLong, n, body)
		}
	}
	for _, size := range []int{995, 996, 997, 998, 999, 1000, 5000} {
		n := strings.Repeat("n", size)
		if size > 996 {
			noWrite(t, api.ErrHeaderLong, n, "")
			noWrite(t, api.ErrHeaderLong, n, "x")
			noWrite(t, api.ErrHeaderLong, n, " ")
			continue
		}
		writes(t, n, "", n+": \r\n")
		writes(t, n, " ", n+": \r\n")
		if size == 996 {
			noWrite(t, api.ErrHeaderLong, n, "x")
			continue
		}
		writes(t, n, "x", n+": x\r\n")
		writes(t, n, "x y", n+": x\r\n y\r\n")
		noWrite(t, api.ErrHeaderLong, n, "xx")
	}
	long := strings.Repeat("word ", 200000)
	writes(t, "A", strings.Repeat("x", 997)[:995], "A: "+xs(995)+"\r\n")
	writes(t, "A", long, "A: "+strings.TrimSuffix(strings.Repeat("word ", 15), " ")+strings.Repeat("\r\n"+strings.Repeat(" word", 15), 13332)+"\r\n"+strings.Repeat(" word", 5)+"\r\n")
}

// TestP11_4Both: what may not be is told ahead of what is too long.
func TestP11_4Both(t *testing.T) {
	for _, c := range []part{{"A", xs(5000) + "\n"}, {"A", "\x00" + xs(5000)}, {"A", xs(5000) + " \x7f"}, {"T o", xs(5000)}, {"", xs(5000)}, {strings.Repeat("n", 2000) + " ", ""}, {strings.Repeat("n", 2000), "\r"}, {strings.Repeat("n", 2000), "x y\x1f"}, {"A:", xs(5000) + "\n"}} {
		noWrite(t, api.ErrHeaderForm, c.name, c.body)
	}
}

// TestP11_4Add: what Add answers is the new field and the content, whatever that is.
func TestP11_4Add(t *testing.T) {
	for data, want := range map[string][]part{
		"":                             {{"A", " x"}},
		"B: w":                         {{"A", " x"}, {"B", " w"}},
		"B: w\r\n\r\nx":                {{"A", " x"}, {"B", " w"}},
		"A: w\r\na:\r\n y\r\nno field": {{"A", " x"}, {"A", " w"}, {"a", "\r\n y"}},
		"\r\nx":                        {{"A", " x"}},
		"no field":                     {{"A", " x"}},
		"\nB: w":                       {{"A", " x"}},
		" c":                           {{"A", " x\r\n c"}},
		"\tc\r\nB: w\r\n\r\nx":         {{"A", " x\r\n\tc"}, {"B", " w"}},
	} {
		given := []byte(data)
		b, e := header.Add(given, "A", " x ")
		if string(b) != "A: x\r\n"+data || e != api.OK || string(given) != data {
			t.Errorf("Add(%q): %q %v", data, b, e)
			continue
		}
		l, _, e := header.Split(b)
		if !slices.Equal(partsOf(l), want) || e != api.OK {
			t.Errorf("%q: %+v %v, not %+v", b, l, e, want)
		}
	}
}

// TestP11_4AddGreat: Add does not ask whether the content can be split.
func TestP11_4AddGreat(t *testing.T) {
	for _, data := range []string{strings.Repeat("a:b\r\n", 1000), strings.Repeat("a:b\r\n", 200000), "a:" + xs(65529) + "\r\n", xs(1 << 20), strings.Repeat("\x00\r\n", 300000)} {
		b, e := header.Add([]byte(data), "A", "x y")
		if string(b) != "A: x y\r\n"+data || e != api.OK {
			t.Errorf("Add(%s): %s %v", short(data), short(string(b)), e)
		}
	}
	many, _ := header.Add([]byte(strings.Repeat("a:b\r\n", 1000)), "A", "")
	noSplit(t, api.ErrHeaderMany, string(many))
	long, _ := header.Add([]byte("a:"+xs(65529)+"\r\n"), "A", "")
	noSplit(t, api.ErrHeaderLong, string(long))
	noWrite(t, api.ErrHeaderForm, "", xs(2000))
	for _, data := range []string{"", " ", strings.Repeat("a:b\r\n", 200000)} {
		if b, e := header.Add([]byte(data), "A", "\n"); len(b) != 0 || e != api.ErrHeaderForm {
			t.Error(short(string(b)), e)
		}
		if b, e := header.Add([]byte(data), "A", xs(996)); len(b) != 0 || e != api.ErrHeaderLong {
			t.Error(short(string(b)), e)
		}
	}
}
