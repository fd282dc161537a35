package header_test

import (
	"strings"
	"testing"

	"waybill/api"
	"waybill/header"
)

// TestP11_1Name: each byte as a name's only one, as its first, in its middle, as its last.
func TestP11_1Name(t *testing.T) {
	if len(ofNames) != 93 {
		t.Fatal(len(ofNames))
	}
	eachByte(func(c byte, s string) {
		want := isOneOf(c, ofNames)
		for _, name := range []string{s, s + "a", "a" + s + "b", "a" + s, s + s, strings.Repeat("a", 70000) + s} {
			if header.Name(name) != want {
				t.Errorf("Name(%s) is %v", short(name), !want)
			}
		}
	})
	if header.Name("") {
		t.Error("the empty name")
	}
	for _, name := range []string{"Received", "X-y!", "1", "-", "\"", ";", ".", strings.Repeat("a", 70000)} {
		if !header.Name(name) {
			t.Errorf("Name(%s) is false", short(name))
		}
	}
	for _, name := range []string{" ", "a b", " a", "a ", "a:", ":a", ":", "a\r\n", "\r\n", "a\tb", "\u00e9", "\x00", "a\x7f"} {
		if header.Name(name) {
			t.Errorf("Name(%q) is true", name)
		}
	}
}

// TestP11_1Bytes: two texts of which one byte differs are the same, if it is a letter of the other kind.
func TestP11_1Bytes(t *testing.T) {
	eachByte(func(c byte, s string) {
		eachByte(func(d byte, u string) {
			want := c == d || isOneOf(c, ofLetters) && isOneOf(d, ofLetters) && (c+32 == d || d+32 == c)
			for _, pair := range [][2]string{{s, u}, {s + "a", u + "A"}, {"Z" + s + "b", "z" + u + "B"}, {"X-" + s, "x-" + u}} {
				if header.Same(pair[0], pair[1]) != want {
					t.Errorf("Same(%q, %q) is %v", pair[0], pair[1], !want)
				}
			}
		})
	})
}

func TestP11_1Same(t *testing.T) {
	for _, pair := range [][2]string{
		{"", ""}, {"a", "A"}, {"Received", "rECEIVED"}, {"received", "RECEIVED"}, {"X-y!", "x-Y!"}, {" a:", " A:"}, {"\x80\xffz", "\x80\xffZ"}, {"\u00c9", "\u00c9"},
		{strings.Repeat("aB", 50000), strings.Repeat("Ab", 50000)},
	} {
		if !alike(t, pair[0], pair[1]) {
			t.Errorf("Same(%s, %s) is false", short(pair[0]), short(pair[1]))
		}
	}
	for _, pair := range [][2]string{
		{"", "a"}, {"a", "aa"}, {"a", "b"}, {"Receive", "Received"}, {"Received", "Received "}, {"@", "`"}, {"[", "{"}, {"\\", "|"}, {"]", "}"}, {"^", "~"}, {"_", "\x7f"},
		{"\xc1", "\xe1"}, {"\u00c9", "\u00e9"}, {"k", "\u212a"}, {"s", "\u017f"}, {"1", "\x11"}, {"-", "_"}, {"A", "!"},
		{strings.Repeat("a", 50000) + "b", strings.Repeat("a", 50000) + "c"},
	} {
		if alike(t, pair[0], pair[1]) {
			t.Errorf("Same(%s, %s) is true", short(pair[0]), short(pair[1]))
		}
	}
}

// TestP11_5Find: the first field that has the name, in letters of either kind.
func TestP11_5Find(t *testing.T) {
	to, cc, other := field("To", " a", 0, 7), field("cC", " b\r\n c", 7, 18), field("TO", "", 18, 23)
	l := []api.Field{to, cc, other}
	for _, name := range []string{"To", "to", "TO", "tO"} {
		finds(t, l, name, to)
		finds(t, l[1:], name, other)
		findsNone(t, l[1:2], name)
	}
	finds(t, l, "Cc", cc)
	for _, name := range []string{"", "T", "Too", "To:", "To ", " To", "T o", "\x00", "\u0422o", "From", " a"} {
		findsNone(t, l, name)
	}
	for _, none := range [][]api.Field{nil, {}} {
		findsNone(t, none, "To")
		findsNone(t, none, "")
	}
}

// TestP11_5Odd: fields that no Split tells are met as they are.
func TestP11_5Odd(t *testing.T) {
	odd := []api.Field{field("a b", "\x00", -1, -5), {}, field("\xff:", "", 1<<62, 0)}
	finds(t, odd, "A B", odd[0])
	finds(t, odd, "", odd[1])
	finds(t, odd, "\xff:", odd[2])
	findsNone(t, odd, "\xff")
	if n := header.Hops(odd); n != 0 {
		t.Error(n)
	}
}

func TestP11_5Hops(t *testing.T) {
	for want, names := range [][]string{
		{"To", "Receive", "Received-By", "Receivedd", "received ", " Received", "X-Received", "", "Received:", "Rece\u0130ved"},
		{"a", "RECEIVED", "b"},
		{"Received", "received"},
		{"rEcEiVeD", "To", "ReceiveD", "X", "Received"},
	} {
		var l []api.Field
		for i, name := range names {
			l = append(l, field(name, " Received: x", i, i+1))
		}
		if n := header.Hops(l); n != want {
			t.Errorf("Hops(%q): %d, not %d", names, n, want)
		}
	}
	for _, none := range [][]api.Field{nil, {}} {
		if n := header.Hops(none); n != 0 {
			t.Error(n)
		}
	}
	for _, n := range []int{50, 51, 1000, 5000} {
		if got := header.Hops(make([]api.Field, n)); got != 0 {
			t.Error(got)
		}
		l := make([]api.Field, n)
		for i := range l {
			l[i].Name = "received"
		}
		if got := header.Hops(l); got != n {
			t.Error(got, n)
		}
	}
}
