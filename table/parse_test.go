package table_test

import (
	"fmt"
	"slices"
	"strings"
	"testing"

	"waybill/api"
	"waybill/table"
)

func TestP6_1Empty(t *testing.T) {
	for _, text := range []string{"", "\n", "\n\n\n", " ", "\t", " \t \n\t\n ", "#", "#\n", "# a b\n", "#a b\n#c d", " # a\n\t#b\n \t #", "##", " \n#\n \n"} {
		reads(t, text)
	}
}

func TestP6_1Entries(t *testing.T) {
	for _, x := range []struct {
		text string
		want []pair
	}{
		{"a b", []pair{{"a", "b"}}},
		{"a b\n", []pair{{"a", "b"}}},
		{"a\tb", []pair{{"a", "b"}}},
		{"a \t  b \t ", []pair{{"a", "b"}}},
		{"a b\nc d", []pair{{"a", "b"}, {"c", "d"}}},
		{"a b\nc d\n", []pair{{"a", "b"}, {"c", "d"}}},
		{"c d\n\na b\n\n", []pair{{"a", "b"}, {"c", "d"}}},
		{"a b  c\t d", []pair{{"a", "b  c\t d"}}},
		{"a b # c", []pair{{"a", "b # c"}}},
		{"a #b", []pair{{"a", "#b"}}},
		{"a# b", []pair{{"a#", "b"}}},
		{"a-b@c.d, e f", []pair{{"a-b@c.d,", "e f"}}},
		{"~ !", []pair{{"~", "!"}}},
		{"ABCXYZ abcXYZ", []pair{{"abcxyz", "abcXYZ"}}},
		{"@[`{ X", []pair{{"@[`{", "X"}}},
		{"a:b c", []pair{{"a:b", "c"}}},
		{`"a b" c`, []pair{{`"a`, `b" c`}}},
	} {
		reads(t, x.text, x.want...)
	}
}

func TestP6_1Continued(t *testing.T) {
	for _, x := range []struct {
		text string
		want []pair
	}{
		{"a b\n c", []pair{{"a", "b c"}}},
		{"a b\n c\n", []pair{{"a", "b c"}}},
		{"a b\n\tc", []pair{{"a", "b c"}}},
		{"a b \t\n \t c \t\n", []pair{{"a", "b c"}}},
		{"a b\n c\n d\n  e", []pair{{"a", "b c d e"}}},
		{"a b\n c  d\t e\n f", []pair{{"a", "b c  d\t e f"}}},
		{"a\n b", []pair{{"a", "b"}}},
		{"a \n b\n c", []pair{{"a", "b c"}}},
		{"a\t\n\tb", []pair{{"a", "b"}}},
		{"a\n\n \n# x\n  # y\n b", []pair{{"a", "b"}}},
		{"a b\n# x\n c", []pair{{"a", "b c"}}},
		{"a b\n # x\n c\n\t#y\n d\n", []pair{{"a", "b c d"}}},
		{"a b\n\n c\n \t\n d", []pair{{"a", "b c d"}}},
		{"a b\n  c # x\n d", []pair{{"a", "b c # x d"}}},
		{"a b\n c\nd e\n f\n", []pair{{"a", "b c"}, {"d", "e f"}}},
		{"d e\n f\na\n b\n c\n", []pair{{"a", "b c"}, {"d", "e f"}}},
		{"# x\na b\n c\n", []pair{{"a", "b c"}}},
		{"a b\n A B\n", []pair{{"a", "b A B"}}},
		{"a b\n \n", []pair{{"a", "b"}}},
	} {
		reads(t, x.text, x.want...)
	}
}

func TestP6_1ContinuesNone(t *testing.T) {
	refuses(t, " a b", api.ErrTableForm, 0)
	refuses(t, "\ta", api.ErrTableForm, 0)
	refuses(t, "  a b\nc d", api.ErrTableForm, 0)
	refuses(t, "\n a", api.ErrTableForm, 1)
	refuses(t, " \n\t\n  a", api.ErrTableForm, 4)
	refuses(t, "# x\n b", api.ErrTableForm, 4)
	refuses(t, " # x\n  b\n c\n", api.ErrTableForm, 5)
	refuses(t, " a # x", api.ErrTableForm, 0)
	refuses(t, "\n  a\xc8", api.ErrTableForm, 1)
	refuses(t, "#\xc8\n  a", api.ErrTableForm, 1)
}

func TestP6_1TextLength(t *testing.T) {
	for _, n := range []int{1, api.MaxTable - 1, api.MaxTable} {
		reads(t, strings.Repeat("\n", n))
		reads(t, strings.Repeat(" ", n))
		reads(t, "#"+strings.Repeat("x", n-1))
	}
	rest := api.MaxTable - len("a b\n\n c")
	reads(t, "a b\n"+strings.Repeat(" ", rest)+"\n c", pair{"a", "b c"})
	reads(t, "a "+strings.Repeat("\t", api.MaxTable-3)+"b", pair{"a", "b"})
	refuses(t, strings.Repeat(" ", api.MaxTable-1)+"a", api.ErrTableForm, 0)
	refuses(t, strings.Repeat("\n", api.MaxTable-1)+"a", api.ErrTableForm, api.MaxTable-1)
	refuses(t, strings.Repeat("\n", api.MaxTable-1)+"\x00", api.ErrTableForm, api.MaxTable-1)
	refuses(t, letters(api.MaxTable), api.ErrTableForm, 0)
	refuses(t, "a "+letters(api.MaxTable-2), api.ErrTableForm, 0)

	// Too long comes ahead of all else.
	for _, text := range []string{
		strings.Repeat("\n", api.MaxTable+1), strings.Repeat("\n", api.MaxTable+100), strings.Repeat("\xc8", api.MaxTable+1), " a" + strings.Repeat(" ", api.MaxTable), letters(api.MaxTable + 1), strings.Repeat("a b\n", api.MaxTable/4+1),
	} {
		refuses(t, text, api.ErrTableLong, api.MaxTable)
	}
}

func TestP6_1KeyLength(t *testing.T) {
	for _, n := range []int{1, 2, 319, 320} {
		reads(t, letters(n)+" x", pair{letters(n), "x"})
		reads(t, letters(n)+"\n x", pair{letters(n), "x"})
		reads(t, strings.ToUpper(letters(n))+"\tx\n", pair{letters(n), "x"})
	}
	for _, n := range []int{321, 322, 1000} {
		refuses(t, letters(n)+" x", api.ErrTableForm, 0)
		refuses(t, letters(n), api.ErrTableForm, 0)
		refuses(t, "a b\n"+letters(n)+"\n x", api.ErrTableForm, 4)
	}
}

func TestP6_1ValueLength(t *testing.T) {
	for _, n := range []int{1, 2, 999, 1000} {
		reads(t, "k "+letters(n), pair{"k", letters(n)})
		reads(t, "k \t"+letters(n)+" \t\n", pair{"k", letters(n)})
		reads(t, "k\n "+letters(n)+" \n\n", pair{"k", letters(n)})
	}
	for _, text := range []string{"k", "k\n", "k ", "k \t ", "k\n \n", "k\n# x", "k\n # x\n\t\n", "k\nl m"} {
		refuses(t, text, api.ErrTableForm, 0)
		refuses(t, "#\n\na b\n"+text, api.ErrTableForm, 7)
	}
	for _, n := range []int{1001, 1002, 5000} {
		refuses(t, "k "+letters(n), api.ErrTableForm, 0)
		refuses(t, "a b\nk \n\t"+letters(n)+"\nl m", api.ErrTableForm, 4)
	}
}

func TestP6_1ValueGrows(t *testing.T) {
	for _, pieces := range [][]int{{998, 1}, {1, 998}, {500, 499}, {1, 1, 996}, {333, 333, 332}, {900, 10, 10, 10, 66}} {
		var said []string
		for _, n := range pieces {
			said = append(said, letters(n))
		}
		want := strings.Join(said, " ")
		for _, end := range []string{"\n ", " \t\n\t ", "\n#\n ", "\n\n \n # x\n\t"} {
			text := "k " + strings.Join(said, end)
			reads(t, text, pair{"k", want})
			reads(t, "k"+end+strings.Join(said, end)+"\n", pair{"k", want})
			refuses(t, "a b\n"+text+"\n\n x\n", api.ErrTableForm, 4)
			refuses(t, text+"v", api.ErrTableForm, 0)
		}
	}
	refuses(t, "a b\n"+"k "+letters(999)+"\n x", api.ErrTableForm, 4)
	reads(t, "k "+letters(1000)+"\n \n", pair{"k", letters(1000)})
	refuses(t, "k "+letters(1000)+"\n x", api.ErrTableForm, 0)
	refuses(t, "k x"+strings.Repeat("\n x", 500), api.ErrTableForm, 0)
	reads(t, "k x"+strings.Repeat("\n x", 499), pair{"k", strings.Repeat("x ", 499) + "x"})
	reads(t, "k x"+strings.Repeat(" ", 998)+"y", pair{"k", "x" + strings.Repeat(" ", 998) + "y"})
	refuses(t, "k x"+strings.Repeat(" ", 999)+"y", api.ErrTableForm, 0)
}

// TestP6_1Bytes goes through all bytes, at each place that a text has.
func TestP6_1Bytes(t *testing.T) {
	places := []struct{ ahead, behind string }{
		{"", ""},
		{"", " v\n"}, {"a b\n", " v\n"},
		{"k", " v\n"}, {"k", "k v\n"},
		{"k", "v\n"}, {"k ", "\n"}, {"k ", "v\n"}, {"k v", "\n"}, {"k v", "w\n"}, {"k v", ""}, {"k v\n", ""}, {"k v\n\n", ""},
		{"k v\n ", "w\n"}, {"k v\n w", "x\n"}, {"k v\n w", "\n"}, {"k v\n ", ""}, {"k v\n w", ""},
		{"#", "\n"}, {"# a", "b\nc d"}, {"#", ""}, {" #", "\n"},
		{"\n", "\n"}, {" ", "\n"}, {"k v\n ", "\n"}, {"k v\n# ", "\n w"},
	}
	for _, place := range places {
		for c := range 256 {
			text := place.ahead + string([]byte{byte(c)}) + place.behind
			want := wanted(text)
			x, f := table.Parse(text)
			if f != want || (x != nil) != (f.Code == api.OK) {
				t.Errorf("Parse(%q): %v, not %v", text, f, want)
			}
			if right := c == 9 || c == 10 || c >= 32 && c <= 126; !right && (f.Code != api.ErrTableForm || f.At > len(place.ahead)) {
				t.Errorf("Parse(%q): %v", text, f)
			}
		}
	}
}

func TestP6_1BadBytes(t *testing.T) {
	for _, c := range []string{"\x00", "\x08", "\x0b", "\x0c", "\r", "\x1f", "\x7f", "\x80", "\xa0", "\xc8", "\xff", "é"} {
		refuses(t, c, api.ErrTableForm, 0)
		refuses(t, c+" v", api.ErrTableForm, 0)
		refuses(t, "k"+c+"k v", api.ErrTableForm, 1)
		refuses(t, "k "+c, api.ErrTableForm, 2)
		refuses(t, "k v"+c+"\n", api.ErrTableForm, 3)
		refuses(t, "k v\n\t"+c, api.ErrTableForm, 5)
		refuses(t, "k v\n"+c+"\n", api.ErrTableForm, 4)
		refuses(t, "k v\n"+c+"#", api.ErrTableForm, 4)
		refuses(t, "#"+c, api.ErrTableForm, 1)
		refuses(t, "k v\n # x"+c+"\n w\n", api.ErrTableForm, 8)
		refuses(t, "k v\nl w\nm x\n\n "+c, api.ErrTableForm, 14)
	}
	for _, c := range []string{"\x21", "\x7e", "!", "~"} {
		reads(t, c+" "+c, pair{c, c})
	}
	reads(t, "a\tb c\n\n", pair{"a", "b c"})
}

func TestP6_1Twice(t *testing.T) {
	refuses(t, "a b\na b", api.ErrTableTwice, 4)
	refuses(t, "a b\na c\n", api.ErrTableTwice, 4)
	refuses(t, "a b\nA c", api.ErrTableTwice, 4)
	refuses(t, "A b\na c", api.ErrTableTwice, 4)
	refuses(t, "JOE@x.ORG b\nc d\njoe@X.org e\n", api.ErrTableTwice, 16)
	refuses(t, "a b\n# x\n\na\n c", api.ErrTableTwice, 9)
	refuses(t, "a b\na c\na d", api.ErrTableTwice, 4)
	refuses(t, "a b\nc d\nc e\na f", api.ErrTableTwice, 8)
	refuses(t, numbered(2000)+"k0000 x", api.ErrTableTwice, len(numbered(2000)))
	refuses(t, numbered(2000)+"K1999 x", api.ErrTableTwice, len(numbered(2000)))
	refuses(t, letters(320)+" x\n"+strings.ToUpper(letters(320))+" y", api.ErrTableTwice, 323)
	reads(t, "a b\naa b\nb b\n", pair{"a", "b"}, pair{"aa", "b"}, pair{"b", "b"})
	reads(t, "a b\n a c\n A d\n#a e\n", pair{"a", "b a c A d"})
	reads(t, "@ b\n` c\n", pair{"@", "b"}, pair{"`", "c"})
	reads(t, "[ b\n{ c\n", pair{"[", "b"}, pair{"{", "c"})
}

func TestP6_1Many(t *testing.T) {
	for _, n := range []int{1999, 2000} {
		x := parsed(t, numbered(n)+"# more\n\n")
		if x.Len() != n {
			t.Errorf("%d entries, not %d", x.Len(), n)
		}
		exact(t, x, fmt.Sprintf("k%04d", n-1), fmt.Sprintf("v%d", n-1))
	}
	text := numbered(2000)
	refuses(t, text+"x y", api.ErrTableMany, len(text))
	refuses(t, text+"\n# x\n  z\nx\n  y\nz v\n", api.ErrTableMany, len(text)+9)
	refuses(t, numbered(2001), api.ErrTableMany, len(text))
	refuses(t, numbered(2002), api.ErrTableMany, len(text))
}

// TestP6_1FirstByPlace has several faults in one text.
func TestP6_1FirstByPlace(t *testing.T) {
	for _, x := range []struct {
		text string
		code api.Errno
		at   int
	}{
		{"a\xc8", api.ErrTableForm, 0}, // an empty value, ahead of the byte
		{"a\xc8 b", api.ErrTableForm, 1},
		{"a b\nc\n#\xc8", api.ErrTableForm, 4},
		{"a b\nc\n#\xc8\n d", api.ErrTableForm, 7}, // what continues it makes its value no empty one
		{"a \xc8\n" + " " + letters(1000), api.ErrTableForm, 0},
		{"a \xc8\n" + " " + letters(998), api.ErrTableForm, 2},
		{"a \xc8\xc8\n", api.ErrTableForm, 2},
		{"\xc8 b\n", api.ErrTableForm, 0},
		{"\xc8" + letters(320) + " b\n", api.ErrTableForm, 0},
		{"a b\na \xc8", api.ErrTableTwice, 4},
		{"a b\xc8\na c", api.ErrTableForm, 3},
		{"a b\n#\xc8\na c", api.ErrTableForm, 5},
		{"a b\na c\n#\xc8", api.ErrTableTwice, 4},
		{"a b\na", api.ErrTableForm, 4}, // of one place Form comes ahead of Twice
		{"a b\nA c\n " + letters(999), api.ErrTableForm, 4},
		{"a b\nA c\n " + letters(998), api.ErrTableTwice, 4},
		{"a\xc8 b\na\xc8 c", api.ErrTableForm, 1},
		{"\xc8a b\n\xc8a c", api.ErrTableForm, 0},
		{"a b\nc\na d", api.ErrTableForm, 4},
		{"a b\na d\nc", api.ErrTableTwice, 4},
		{" a\nb c\nb d", api.ErrTableForm, 0},
		{"#\n a\n b\n", api.ErrTableForm, 2},
		{letters(321) + "\na b\na c", api.ErrTableForm, 0},
		{"b c\n" + letters(321) + " x\nb c", api.ErrTableForm, 4},
		{"b c\nb c\n" + letters(321) + " x", api.ErrTableTwice, 4},
	} {
		refuses(t, x.text, x.code, x.at)
		if f := wanted(x.text); f != (api.Fault{Code: x.code, At: x.at}) {
			t.Errorf("the model of %s: %v", short(x.text), f)
		}
	}
}

// TestP6_1FirstOfMany has faults about the entry that is one too many.
func TestP6_1FirstOfMany(t *testing.T) {
	text := numbered(2000)
	for _, x := range []struct {
		more string
		code api.Errno
		at   int
	}{
		{"x y", api.ErrTableMany, 0},
		{"x y\n \xc8", api.ErrTableMany, 0},
		{"x\xc8 y", api.ErrTableMany, 0},
		{"\xc8x y", api.ErrTableForm, 0},
		{"x", api.ErrTableForm, 0},
		{"x y\nx z", api.ErrTableMany, 0},
		{"k0100 y", api.ErrTableTwice, 0},
		{"k0100", api.ErrTableForm, 0},
		{"k0100 y\nx z", api.ErrTableTwice, 0},
		{letters(321) + " y", api.ErrTableForm, 0},
		{"x " + letters(1001), api.ErrTableForm, 0},
		{"#\xc8\nx y", api.ErrTableForm, 1},
		{" more\xc8\nx y", api.ErrTableForm, 5},
		{" " + letters(1000) + "\nx y", api.ErrTableForm, -len("k1999 v1999\n")},
	} {
		refuses(t, text+x.more, x.code, len(text)+x.at)
	}
	refuses(t, "a b\na c\n"+text, api.ErrTableTwice, 4)
	refuses(t, "\xc8"+text+"x y\n", api.ErrTableForm, 0)
}

// TestP6_1SharesNothing: two tables of one text are of their own (R3, R4).
func TestP6_1SharesNothing(t *testing.T) {
	b := []byte("Joe one\nann two\n")
	x := parsed(t, string(b))
	y := parsed(t, "Joe other\n")
	copy(b, "XXXXXXXX")
	has(t, x, "the first one", pair{"ann", "two"}, pair{"joe", "one"})
	has(t, y, "the other one", pair{"joe", "other"})
}

// TestP6_5Order: in which order entries stand turns nothing.
func TestP6_5Order(t *testing.T) {
	lines := []string{"a b", "B c\n d", "@x y", ".X z\n\n#\n w", "aa v"}
	want := []pair{{".x", "z w"}, {"@x", "y"}, {"a", "b"}, {"aa", "v"}, {"b", "c d"}}
	var each func(ahead, left []string)
	each = func(ahead, left []string) {
		if len(left) == 0 {
			reads(t, join(ahead...), want...)
		}
		for i, line := range left {
			each(append(slices.Clone(ahead), line), slices.Delete(slices.Clone(left), i, i+1))
		}
	}
	each(nil, lines)
}

// TestP6_5Noise: comments, empty lines, more blanks and a last line's end turn nothing.
func TestP6_5Noise(t *testing.T) {
	noise := []string{"", "\n", "\n\n", "#\n", "# a x\n", "  # b y\n", " \t\n", "\t#\n \n#\n"}
	gaps := []string{" ", "\t", "  ", " \t \t", strings.Repeat(" ", 2000)}
	ends := []string{"\n", " \n", "\t\t \n"}
	for _, n := range noise {
		for _, gap := range gaps {
			for _, end := range ends {
				text := n + "b" + gap + "one" + end + n + "  two" + end + n + "a" + gap + "x  y" + end + n
				reads(t, text, pair{"a", "x  y"}, pair{"b", "one two"})
				reads(t, strings.TrimRight(text, "\n"), pair{"a", "x  y"}, pair{"b", "one two"})
			}
		}
	}
}

func TestP6_5Numbers(t *testing.T) {
	lines := strings.SplitAfter(numbered(2000), "\n")[:2000]
	slices.Reverse(lines)
	there, back := parsed(t, numbered(2000)), parsed(t, "# back\n\n"+strings.Join(lines, "\n"))
	if there.Len() != 2000 || back.Len() != 2000 {
		t.Fatal(there.Len(), back.Len())
	}
	for k := range 2000 {
		key, value, is := there.At(k)
		other, otherValue, otherIs := back.At(k)
		if key != fmt.Sprintf("k%04d", k) || value != fmt.Sprintf("v%d", k) || !is || key != other || value != otherValue || !otherIs {
			t.Fatal(k, key, value, is, other, otherValue, otherIs)
		}
	}
}

// TestExampleFaults is the last line of the chapter's table.
func TestExampleFaults(t *testing.T) {
	refuses(t, " a b", api.ErrTableForm, 0)
	refuses(t, "a", api.ErrTableForm, 0)
	refuses(t, join("a b", "a b"), api.ErrTableTwice, 4)
	refuses(t, "\xc8", api.ErrTableForm, 0)
}
