package table_test

import (
	"fmt"
	"math"
	"strings"
	"testing"

	"waybill/table"
)

func TestP6_2At(t *testing.T) {
	x := reads(t, "b 1\nB.c 2\n@b 3\n.b 4\nA 5\na~ 6\na! 7\nZ 8\n_ 9\n0 10\n",
		pair{".b", "4"}, pair{"0", "10"}, pair{"@b", "3"}, pair{"_", "9"}, pair{"a", "5"}, pair{"a!", "7"}, pair{"a~", "6"}, pair{"b", "1"}, pair{"b.c", "2"}, pair{"z", "8"})
	for _, k := range []int{math.MinInt, -2, -1, 10, 11, 1 << 32, math.MaxInt} {
		if key, value, is := x.At(k); key != "" || value != "" || is {
			t.Errorf("At(%d): %q %q %v", k, key, value, is)
		}
	}
}

func TestP6_2OfNone(t *testing.T) {
	x := parsed(t, "")
	if x.Len() != 0 {
		t.Error(x.Len())
	}
	for _, k := range []int{math.MinInt, -1, 0, 1, math.MaxInt} {
		if key, value, is := x.At(k); key != "" || value != "" || is {
			t.Errorf("At(%d): %q %q %v", k, key, value, is)
		}
	}
	for _, s := range []string{"", "a", ".", "@", "a.b"} {
		exact(t, x, s, "")
		domain(t, x, s, "")
		address(t, x, s, s, "")
	}
}

func TestP6_3Exact(t *testing.T) {
	x := parsed(t, "joe@X.org one\nABCDEFGHIJKLMNOPQRSTUVWXYZ two\nk three\n@[`{ four\n.b five\ns six")
	for key, want := range map[string]string{
		"joe@x.org": "one", "JOE@X.ORG": "one", "Joe@X.oRg": "one",
		"abcdefghijklmnopqrstuvwxyz": "two", "ABCDEFGHIJKLMNOPQRSTUVWXYZ": "two", "aBCDEFGHIJKLMNOPQRSTUVWXYz": "two",
		"k": "three", "K": "three", "\u212a": "", // the sign of Kelvin is no K
		"s": "six", "S": "six", "\u017f": "",
		"@[`{": "four", "`[`{": "", "@{`{": "", "@[@{": "", "@[`[": "",
		".b": "five", ".B": "five", "b": "", "a.b": "",
		"": "", " ": "", "joe": "", "joe@x.or": "", "joe@x.org ": "", " joe@x.org": "", "joe@x.orgg": "", "x.org": "", "@x.org": "", "k\n": "", "k\x00": "", "\xc8": "", "k three": "",
	} {
		exact(t, x, key, want)
	}
}

func TestP6_3ExactLong(t *testing.T) {
	x := parsed(t, letters(320)+" x\n"+letters(319)+" y\n")
	exact(t, x, letters(320), "x")
	exact(t, x, strings.ToUpper(letters(320)), "x")
	exact(t, x, letters(319), "y")
	for _, n := range []int{1, 318, 321, 322, 640, 1 << 20} {
		exact(t, x, letters(n), "")
	}
}

// TestP6_3ExactEach looks each key of a full table up, and keys between them.
func TestP6_3ExactEach(t *testing.T) {
	x := parsed(t, numbered(2000))
	for i := range 2000 {
		exact(t, x, fmt.Sprintf("k%04d", i), fmt.Sprintf("v%d", i))
		exact(t, x, fmt.Sprintf("K%04d", i), fmt.Sprintf("v%d", i))
		exact(t, x, fmt.Sprintf("k%04d.", i), "")
		exact(t, x, fmt.Sprintf("k%03d", i%1000), "")
	}
}

func TestP6_3Address(t *testing.T) {
	x := parsed(t, "joe@x.org one\n@X.org all\nann@y.org two\n@ nobody\n@@z odd\nbob@ short\na@b@c three\njoe four\nx.org five\n.org six\n")
	for _, q := range []struct{ local, domain, want string }{
		{"joe", "x.org", "one"}, {"JOE", "X.ORG", "one"}, {"Joe", "x.Org", "one"},
		{"ann", "x.org", "all"}, {"ann", "X.ORG", "all"}, {"", "x.org", "all"}, {"\xc8 ", "x.org", "all"}, {strings.Repeat("a", 1000), "x.org", "all"},
		{"ann", "y.org", "two"}, {"ANN", "Y.org", "two"}, {"joe", "y.org", ""}, {"", "y.org", ""},
		{"bob", "", "short"}, {"BOB", "", "short"}, {"joe", "", "nobody"}, {"", "", "nobody"},
		{"@", "z", "odd"}, {"", "@z", "odd"}, {"q", "@z", "odd"}, {"q", "z", ""},
		{"a@b", "c", "three"}, {"a", "b@c", "three"},
		{"joe", "a.x.org", ""}, {"joe", "org", ""}, {"joe", "x.org.", ""}, {"joe@x.org", "", "nobody"},
	} {
		address(t, x, q.local, q.domain, q.want)
	}
	y := parsed(t, "joe one\nx.org five\n.org six\n.x.org seven\n@y z")
	for _, q := range [][2]string{{"joe", "x.org"}, {"", ""}, {"joe", ""}, {"", "joe"}, {"joe", "a.x.org"}} {
		address(t, y, q[0], q[1], "")
	}
}

// TestP6_3AddressLong: the whole of it is at most as long as a key, and so is what stands from the @ on.
func TestP6_3AddressLong(t *testing.T) {
	local, name := letters(64), letters(255)
	x := parsed(t, local+"@"+name+" one\n@"+letters(319)+" two\n")
	address(t, x, local, name, "one")
	address(t, x, local, letters(319), "two")
	address(t, x, letters(1<<20), letters(319), "two")
	address(t, x, local, letters(320), "")
	address(t, x, local+"v", name, "")
	address(t, x, local, letters(1<<20), "")
}

func TestP6_3Domain(t *testing.T) {
	x := parsed(t, "x.org self\n.X.org below\n.org top\n.a.x.org deep\n@x.org no\nnet self\n.b.net below")
	for name, want := range map[string]string{
		"x.org": "self", "X.ORG": "self", "a.x.org": "below", "A.X.Org": "below", "b.a.x.org": "deep", "c.b.a.x.org": "deep", "c.b.x.org": "below",
		"y.org": "top", "y.ORG": "top", "ax.org": "top", "org": "", "x.orgg": "", "x.or": "", "org.": "",
		".x.org": "below", ".X.org": "below", ".a.x.org": "deep", ".y.org": "top", ".org": "top",
		"..org": "top", "a..x.org": "below", "a..org": "top", "x..org": "top", "..x.org": "below",
		"x.org.": "", "a.x.org.": "", "@x.org": "no",
		"net": "self", ".net": "", "a.net": "", "b.net": "", "a.b.net": "below", "": "", ".": "", "..": "", "a": "", "a.": "", "\xc8.org": "top", "a b.org": "top", "a.\u212a": "",
	} {
		domain(t, x, name, want)
	}
}

// TestP6_3DomainDots has keys with dots in a row and at their ends.
func TestP6_3DomainDots(t *testing.T) {
	x := parsed(t, ". dot\n..b two\n.a. behind\n.c.. twice\nd. self\n")
	for name, want := range map[string]string{
		".": "dot", "..": "dot", "...": "dot", "a.": "dot", "a..": "dot", ".a.": "behind", "x.a.": "behind", "x.A.": "behind", "..a.": "behind",
		"a..b": "two", "..b": "two", "...b": "two", ".b": "", "a.b": "", "x.a..b": "two",
		"x.c..": "twice", ".c..": "twice", "c..": "dot", "d.": "self", "D.": "self", ".d.": "dot", "d": "", "": "",
	} {
		domain(t, x, name, want)
	}
}

// TestP6_3DomainLeft: of several parents that are there the longest one is answered, whatever its place in the table.
func TestP6_3DomainLeft(t *testing.T) {
	keys := []string{"a.b.c.d", ".b.c.d", ".c.d", ".d"}
	for from := range keys {
		var lines []string
		for _, key := range keys[from:] {
			lines = append(lines, key+" "+key[:2])
		}
		domain(t, parsed(t, join(lines...)), "A.b.c.D", keys[from][:2])
	}
	domain(t, parsed(t, "d x\nc.d x\nb.c.d x\n.a.b.c.d x\n"), "a.b.c.d", "")
}

// TestP6_3DomainLong: a domain may be of any length, and its parents too (P1).
func TestP6_3DomainLong(t *testing.T) {
	x := parsed(t, "."+letters(319)+" long\n.end short\n. dot\n")
	domain(t, x, "a."+letters(319), "long")
	domain(t, x, "a."+letters(320), "")
	domain(t, x, letters(1<<20)+"."+letters(319), "long")
	domain(t, x, strings.Repeat("a.", 1<<20)+"END", "short")
	domain(t, x, strings.Repeat(".", 1<<21), "dot")
	domain(t, x, strings.Repeat(".", 1<<21)+"x", "")
	domain(t, x, letters(1<<21), "")
}

// TestP6_3KeepsTheTable: no question turns anything.
func TestP6_3KeepsTheTable(t *testing.T) {
	x := parsed(t, "b one\n@a two\n")
	for _, q := range []string{"b", "c", "", "@a", "x.b", "A"} {
		x.Exact(q)
		x.Domain(q)
		x.Address(q, q)
		has(t, x, q, pair{"@a", "two"}, pair{"b", "one"})
	}
}

func TestP6_4Join(t *testing.T) {
	a := parsed(t, "x one\n@d a-all\n.p a-parent\n")
	b := parsed(t, "x two\ny three\njoe@d b-joe\nq.p b-self\n@e b-all\n")
	c := parsed(t, "y four\nz five\n.e six\n")
	both := table.Join([]*table.Table{nil, a, nil, b, c, nil})
	for key, want := range map[string]string{"x": "one", "X": "one", "y": "three", "z": "five", "w": "", "": ""} {
		exact(t, both, key, want)
	}
	address(t, both, "joe", "d", "a-all") // the first table has it, by its domain
	address(t, both, "JOE", "E", "b-all")
	address(t, both, "joe", "f", "")
	address(t, both, "", "", "")
	domain(t, both, "q.p", "a-parent")
	domain(t, both, "Q.E", "six")
	domain(t, both, "z", "five")
	domain(t, both, "w", "")
	other := table.Join([]*table.Table{c, b, a})
	exact(t, other, "x", "two")
	exact(t, other, "y", "four")
	address(t, other, "joe", "d", "b-joe")
	address(t, other, "ann", "d", "a-all")
	domain(t, other, "q.p", "b-self")
	domain(t, other, "r.p", "a-parent")
}

func TestP6_4JoinOfNone(t *testing.T) {
	for _, l := range [][]*table.Table{nil, {}, {nil}, {nil, nil, nil}, {parsed(t, "")}, {nil, parsed(t, "# x\n"), nil}} {
		c := table.Join(l)
		if c == nil {
			t.Fatal("Join: nil")
		}
		for _, s := range []string{"", "x", ".", "@", "a.b"} {
			exact(t, c, s, "")
			domain(t, c, s, "")
			address(t, c, s, s, "")
		}
	}
}

func TestP6_4JoinOfOne(t *testing.T) {
	x := parsed(t, "x one\n@d two\n.p three\n")
	for _, c := range []*table.Chain{table.Join([]*table.Table{x}), table.Join([]*table.Table{x, x, x})} {
		exact(t, c, "X", "one")
		address(t, c, "q", "d", "two")
		domain(t, c, "q.p", "three")
		exact(t, c, "q", "")
	}
}

// TestP6_4JoinMany: each of many tables is asked, in their order.
func TestP6_4JoinMany(t *testing.T) {
	var l []*table.Table
	for i := range 100 {
		l = append(l, parsed(t, fmt.Sprintf("k%d own%d\nall in%d\n@d%d at%d\n.p%d under%d", i, i, i, i, i, i, i)))
	}
	c := table.Join(l)
	exact(t, c, "all", "in0")
	for i := range 100 {
		exact(t, c, fmt.Sprintf("k%d", i), fmt.Sprintf("own%d", i))
		address(t, c, "q", fmt.Sprintf("d%d", i), fmt.Sprintf("at%d", i))
		domain(t, c, fmt.Sprintf("q.p%d", i), fmt.Sprintf("under%d", i))
		exact(t, table.Join(l[i:]), "all", fmt.Sprintf("in%d", i))
	}
}

// TestP6_4SharesNothing: what is done to the list, and to the tables in it, behind a Join turns nothing in the chain (R3).
func TestP6_4SharesNothing(t *testing.T) {
	a, b := parsed(t, "x one\n"), parsed(t, "y two\n")
	l := []*table.Table{a, nil, b}
	c := table.Join(l)
	if l[0] != a || l[1] != nil || l[2] != b {
		t.Error("Join turned what was handed in")
	}
	other := parsed(t, "x other\ny other\n")
	l[0], l[1], l[2] = other, other, nil
	*a = *other
	exact(t, c, "x", "one")
	exact(t, c, "y", "two")
	has(t, b, "b", pair{"y", "two"})
}

// TestExamples is the chapter's text and table.
func TestExamples(t *testing.T) {
	x := reads(t, join("a b", "  c", "# x", ".Example.org   smtp:[h]", "@x y"), pair{".example.org", "smtp:[h]"}, pair{"@x", "y"}, pair{"a", "b c"})
	domain(t, x, "mail.EXAMPLE.org", "smtp:[h]")
	domain(t, x, "example.org", "")
	address(t, x, "q", "x", "y")
}
