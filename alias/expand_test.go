package alias_test

import (
	"fmt"
	"slices"
	"strings"
	"testing"

	"waybill/alias"
	"waybill/api"
)

func TestP16_3Examples(t *testing.T) {
	a := made(t, given)
	expands(t, a, at("a", "x"), at("d", "z"), at("c", "y"))
	fails(t, a, api.ErrAliasLoop, at("l", "x"))
	expands(t, a, at("s", "x"), at("s", "x"), at("t", "x"))
	expands(t, a, at("q", "w"), at("all", "v"))
	expands(t, a, at("q", "y"), at("q", "y"))
}

// TestP16_3WrongPaths: what may not be, or is nobody, is refused, whatever the tables have for it.
func TestP16_3WrongPaths(t *testing.T) {
	for _, p := range append(append(wrongPaths(), longPaths()...), null) {
		for _, a := range []*alias.Alias{made(t), made(t, given), made(t, askingFor(p)), made(t, rows("b@y b@z", "b@z b@y"), askingFor(p))} {
			fails(t, a, api.ErrArg, p)
		}
	}
}

func TestP16_3ForNone(t *testing.T) {
	for _, p := range []api.Path{at("postmaster", ""), atLiteral("a", "10.0.0.1"), atLiteral("postmaster", "10.0.0.1"), atLiteral("a", "2001:db8::1"), atLiteral("a b", "10.0.0.1")} {
		expands(t, made(t), p, p)
		expands(t, made(t, given), p, p)
		expands(t, made(t, askingFor(p)), p, p)
	}
	l64 := strings.Repeat("l", 64)
	for _, p := range []api.Path{at("q", "y"), at("Q", "y"), at("postmaster", "y"), at("a b", "y"), at("a,b", "y"), at(`"`, "y"), at("a", "10.0.0.1"), at(l64, domainOf(189)), at("a", domainOf(252))} {
		expands(t, made(t), p, p)
		expands(t, made(t, given, ""), p, p)
		expands(t, made(t, askingFor(p)), p, at("b", "y"))
	}
}

// expansion is a table, of whom it is asked, and who is found, with blanks between two.
type expansion struct{ table, of, found string }

// tells wants each of these expansions; who finds nobody is in a loop.
func tells(t *testing.T, l ...expansion) {
	t.Helper()
	for _, x := range l {
		lines := strings.Split(x.table, "; ")
		text, turned := rows(lines...), slices.Clone(lines)
		slices.Reverse(turned)
		for _, tables := range [][]string{{text}, {rows(turned...)}, lines, {"", text}, {"# x", text, text}} {
			a := made(t, tables...)
			if x.found == "" {
				fails(t, a, api.ErrAliasLoop, box(x.of))
			} else {
				expands(t, a, box(x.of), boxes(strings.Fields(x.found)...)...)
			}
		}
	}
}

func TestP16_3Itself(t *testing.T) {
	tells(t,
		expansion{"a@x a@x", "a@x", "a@x"},
		expansion{"a@x a@x,a@x,a@x", "a@x", "a@x"},
		expansion{"@x a@x", "a@x", "a@x"},
		expansion{"@x a@x", "b@x", "a@x"},
		expansion{"a@x a@x,b@y,c@y", "a@x", "a@x b@y c@y"},
		expansion{"a@x b@y,a@x,c@y", "a@x", "b@y a@x c@y"},
		expansion{"a@x b@y,c@y,a@x", "a@x", "b@y c@y a@x"},
		expansion{"a@x a@x,b@y,a@x,c@y,a@x", "a@x", "a@x b@y c@y"},
		expansion{"a@x b@y,a@x,b@y,a@x", "a@x", "b@y a@x"},
		expansion{"a@x b@x; b@x c@y,b@x", "a@x", "c@y b@x"},
		expansion{"a@x b@x,d@y; b@x b@x,c@y", "a@x", "b@x c@y d@y"},
		expansion{"a@x b@x,a@x; b@x c@y,b@x", "a@x", "c@y b@x a@x"},
		expansion{"a@x a@x,b@x; b@x b@x,a@x", "a@x", "a@x b@x"},
		expansion{"a@x a@x,b@x; b@x b@x,a@x", "b@x", "b@x a@x"},
		expansion{"a@x a@x,b@x; b@x a@x", "b@x", "a@x"},
		expansion{"a@x A@x", "a@x", "A@x"},
		expansion{"@x a@x,b@x", "c@x", "a@x b@x"},
		expansion{"@x a@x,b@x", "b@x", "a@x b@x"},
		expansion{"@x b@x,a@x", "a@x", "b@x a@x"},
		expansion{"@x c@y,a@x", "b@x", "c@y a@x"},
		expansion{`a@x "a"@X`, "a@x", "a@x"},
		expansion{"a@x a@[10.0.0.1]; a@10.0.0.1 b@y", "a@x", "a@[10.0.0.1]"},
		expansion{"a@10.0.0.1 a@[10.0.0.1],b@y", "a@10.0.0.1", "a@[10.0.0.1] b@y"},
		expansion{"a@10.0.0.1 b@y,a@10.0.0.1,a@[10.0.0.1]", "a@10.0.0.1", "b@y a@10.0.0.1 a@[10.0.0.1]"},
	)
}

func TestP16_3Trees(t *testing.T) {
	tells(t,
		expansion{"a@x b@x; b@x c@x; c@x d@y", "a@x", "d@y"},
		expansion{"a@x b@x; b@x c@x; c@x d@y", "b@x", "d@y"},
		expansion{"a@x b@x; b@x c@x; c@x d@y", "d@y", "d@y"},
		expansion{"a@x b@x,c@x; b@x d@y,e@y; c@x f@y,g@y", "a@x", "d@y e@y f@y g@y"},
		expansion{"a@x c@x,b@x; b@x d@y,e@y; c@x f@y,g@y", "a@x", "f@y g@y d@y e@y"},
		expansion{"a@x b@x,h@y,c@x; b@x d@y,i@x,e@y; c@x g@y; i@x j@y,k@y", "a@x", "d@y j@y k@y e@y h@y g@y"},
		expansion{"a@x z@y,b@x,a@y; b@x y@y,c@x,b@y; c@x x@y,c@y", "a@x", "z@y y@y x@y c@y b@y a@y"},
		expansion{"@x a@y,b@y; a@y d@w; @y c@z", "q@x", "d@w c@z"},
		expansion{"a@x B@X; B@x c@y", "a@x", "c@y"},
		expansion{`a@x "b;c"@y,"d,e"@y; b;c@y f@z,"g,h"@z`, "a@x", `f@z "g,h"@z "d,e"@y`},
	)
}

// TestP16_3Loops: whom one goes round through is not found; who is found beside is.
func TestP16_3Loops(t *testing.T) {
	tells(t,
		expansion{"a@x b@x; b@x a@x", "a@x", ""},
		expansion{"a@x b@x; b@x a@x", "b@x", ""},
		expansion{"a@x b@x,b@x; b@x a@x,a@x", "a@x", ""},
		expansion{"a@x b@x; b@x c@x; c@x a@x", "a@x", ""},
		expansion{"a@x b@x; b@x c@x; c@x b@x", "a@x", ""},
		expansion{"a@x b@x,c@x; b@x c@x,a@x; c@x a@x,b@x", "a@x", ""},
		expansion{"a@x A@x; @x a@x", "b@x", "A@x"},
		expansion{"a@x b@x; b@x A@x", "a@x", ""},
		expansion{"@x a@y; @y a@x", "q@x", ""},
		expansion{"@x a@y; @y a@x,q@y", "q@x", "q@y"},
		expansion{"a@x b@x,c@y; b@x d@z,a@x", "a@x", "d@z c@y"},
		expansion{"a@x b@x,c@y; b@x d@z,a@x", "b@x", "d@z c@y"},
		expansion{"a@x b@x; b@x c@x; c@x a@x,d@y", "a@x", "d@y"},
		expansion{"a@x b@x; b@x c@x; c@x a@x,c@x", "a@x", "c@x"},
		expansion{"a@x b@x; b@x c@x; c@x a@x,d@y; e@x f@x,a@x; f@x e@x", "e@x", "d@y"},
		expansion{"a@x b@x,d@y; b@x c@x,e@y; c@x a@x,f@y", "a@x", "f@y e@y d@y"},
		expansion{"a@x b@x,d@y; b@x c@x,e@y; c@x a@x,f@y", "c@x", "e@y d@y f@y"},
	)
	for n := 2; n <= 51; n++ {
		l := numbered(n, "k")
		a := made(t, chain(append(l, l[0])...))
		fails(t, a, api.ErrAliasLoop, box(l[0]), box(l[n/2]), box(l[n-1]))
		for _, s := range l[:min(n, 50)] { // behind 51 somebody would be found too deep
			a := made(t, s+" q@y,"+nextOf(l, s), chain(append(l, l[0])...))
			expands(t, a, box(l[0]), at("q", "y"))
			expands(t, a, box(s), at("q", "y"))
		}
	}
}

// chain is a table in which each of these stands for the next one.
func chain(l ...string) string {
	var all strings.Builder
	for i := range l[1:] {
		all.WriteString(l[i] + " " + l[i+1] + "\n")
	}
	return all.String()
}

// nextOf is who follows in a loop.
func nextOf(l []string, s string) string { return l[(slices.Index(l, s)+1)%len(l)] }

// TestP16_3TwoWays: who is met in two ways is expanded the first time, and who is found in two ways is told the first time.
func TestP16_3TwoWays(t *testing.T) {
	tells(t,
		expansion{"a@x b@y,b@y", "a@x", "b@y"},
		expansion{"a@x b@y,c@y,b@y", "a@x", "b@y c@y"},
		expansion{"a@x b@x,c@x; b@x d@y; c@x d@y", "a@x", "d@y"},
		expansion{"a@x b@x,c@x; b@x d@y,e@y; c@x f@y,d@y", "a@x", "d@y e@y f@y"},
		expansion{"a@x b@x,c@x,d@y; b@x d@y,e@y; c@x f@y,d@y", "a@x", "d@y e@y f@y"},
		expansion{"a@x d@y,b@x,c@x; b@x e@y,d@y; c@x f@y,e@y", "a@x", "d@y e@y f@y"},
		expansion{"a@x b@x,c@x; b@x d@x; c@x d@x; d@x e@y,f@y", "a@x", "e@y f@y"},
		expansion{"a@x b@x,g@y,c@x; b@x d@x; c@x h@y,d@x; d@x e@y,f@y", "a@x", "e@y f@y g@y h@y"},
		expansion{"a@x b@x,c@x; b@x d@x,g@y; c@x d@x,h@y; d@x d@x,e@y", "a@x", "d@x e@y g@y h@y"},
		expansion{"a@x b@x,a@x,b@x; b@x a@x,b@x", "a@x", "b@x a@x"},
		expansion{"a@x b@y,B@y,\"b\"@Y", "a@x", "b@y B@y"},
		expansion{"a@x b@10.0.0.1,b@[10.0.0.1]", "a@x", "b@10.0.0.1 b@[10.0.0.1]"},
	)
}

// TestP16_3Depths: 50 steps may be, 51 may not, whatever stands at their end.
func TestP16_3Depths(t *testing.T) {
	for n := 45; n <= 55; n++ {
		l := numbered(n+1, "k") // the last one of these is n steps away
		last := l[n]
		for _, end := range []string{"", last + " " + last, last + " " + last + "," + last} {
			a := made(t, chain(l...)+end)
			if n <= 50 {
				expands(t, a, box(l[0]), box(last))
			} else {
				fails(t, a, api.ErrAliasDeep, box(l[0]))
			}
			expands(t, a, box(l[n-45]), box(last))
		}
		a := made(t, chain(l...)+last+" a@y,"+last+",b@y") // one step more, but for itself
		switch {
		case n < 50:
			expands(t, a, box(l[0]), at("a", "y"), box(last), at("b", "y"))
		default:
			fails(t, a, api.ErrAliasDeep, box(l[0]))
		}
		a = made(t, chain(append(l, l[0])...)) // one that was met, at any depth, is nothing
		if n <= 50 {
			fails(t, a, api.ErrAliasLoop, box(l[0]))
		} else {
			fails(t, a, api.ErrAliasDeep, box(l[0]))
		}
		a = made(t, chain(append(l, l[3])...)+"b@x "+l[0]+",q@y")
		if n <= 49 {
			expands(t, a, at("b", "x"), at("q", "y"))
		} else {
			fails(t, a, api.ErrAliasDeep, at("b", "x"))
		}
	}
	fails(t, made(t, chain(numbered(2000, "k")...)), api.ErrAliasDeep, at("k0", "x"), at("k1000", "x"), at("k1948", "x"))
	expands(t, made(t, chain(numbered(2000, "k")...)), at("k1949", "x"), at("k1999", "x"))
	expands(t, made(t, chain(numbered(2000, "k")...)), at("k1999", "x"), at("k1999", "x"))
}

// TestP16_3DepthOfTheFirst: at which depth somebody is expanded hangs on the way that comes first.
func TestP16_3DepthOfTheFirst(t *testing.T) {
	for n := 40; n <= 53; n++ {
		l := numbered(n+1, "k")
		first, last := l[0], l[n]
		long := chain(l...) + last + " e@y,f@y\n"
		isDeep := n+2 > 50 // from b on, over the first one, to whom the last one stands for
		a := made(t, "b@x "+first+","+last, long)
		if isDeep {
			fails(t, a, api.ErrAliasDeep, at("b", "x"))
		} else {
			expands(t, a, at("b", "x"), at("e", "y"), at("f", "y"))
		}
		a = made(t, "b@x "+last+","+first, long)
		if n > 50 { // of 50 steps the last one goes too far, but to whom was met
			fails(t, a, api.ErrAliasDeep, at("b", "x"))
		} else {
			expands(t, a, at("b", "x"), at("e", "y"), at("f", "y"))
		}
		half := l[n/2]
		a = made(t, "b@x "+half+","+first, long)
		expands(t, a, at("b", "x"), at("e", "y"), at("f", "y"))
		a = made(t, "b@x "+first+","+half, long)
		if isDeep {
			fails(t, a, api.ErrAliasDeep, at("b", "x"))
		} else {
			expands(t, a, at("b", "x"), at("e", "y"), at("f", "y"))
		}
	}
}

// TestP16_3FoundBefore: who was found is met, at whichever depth; ahead of that nobody may lie too deep.
func TestP16_3FoundBefore(t *testing.T) {
	for n := 48; n <= 52; n++ {
		l := numbered(n+1, "k")
		a := made(t, "b@x q@y,"+l[0], chain(l...)+l[n]+" q@y")
		if n+1 <= 50 {
			expands(t, a, at("b", "x"), at("q", "y"))
		} else {
			fails(t, a, api.ErrAliasDeep, at("b", "x"))
		}
		a = made(t, "b@x "+l[0]+",q@y", chain(l...)+l[n]+" q@y")
		if n+2 <= 50 {
			expands(t, a, at("b", "x"), at("q", "y"))
		} else {
			fails(t, a, api.ErrAliasDeep, at("b", "x"))
		}
	}
}

// wide is a table in which a mailbox stands for n others, by values of up to 100; and these.
func wide(of string, n int) (string, []string) {
	all := numbered(n, of[:1])
	text, via := "", []string(nil)
	for i := 0; i < n; i += 100 {
		name := fmt.Sprintf("via%s%d@x", of[:1], i)
		via = append(via, name)
		text += name + " " + strings.Join(all[i:min(i+100, n)], ",") + "\n"
	}
	return text + of + " " + strings.Join(via, ",") + "\n", all
}

// TestP16_3Many: 200 may be found, of which values whatever, and no 201st.
func TestP16_3Many(t *testing.T) {
	for _, n := range []int{1, 99, 100, 101, 199, 200, 201, 202, 300, 2000} {
		text, all := wide("r@x", n)
		a := made(t, text)
		if n <= 200 {
			expands(t, a, at("r", "x"), boxes(all...)...)
		} else {
			fails(t, a, api.ErrAliasMany, at("r", "x"))
		}
	}
	text, all := wide("r@x", 199)
	for _, x := range []struct {
		more  string
		found []string
	}{
		{"b@x r@x,q@y", append(slices.Clone(all), "q@y")},
		{"b@x q@y,r@x", append([]string{"q@y"}, all...)},
		{"b@x r@x,b@x", append(slices.Clone(all), "b@x")},
		{"b@x b@x,r@x", append([]string{"b@x"}, all...)},
		{"b@x b@x,r@x,b@x,r0@x,r198@x", append([]string{"b@x"}, all...)},
		{"b@x r@x,b@x,b@x", append(slices.Clone(all), "b@x")},
		{"b@x r@x,q@y,c@x,q@y,b@z\nc@x q@y,c@z\nb@z r@x,q@y\nc@z b@z", append(slices.Clone(all), "q@y")},
		{"b@x r@x,q@y,w@y", nil},
		{"b@x q@y,w@y,r@x", nil},
		{"b@x q@y,r@x,w@y", nil},
		{"b@x r@x,b@x,q@y", nil},
		{"b@x b@x,r@x,q@y", nil},
		{"b@x q@y,r@x,b@x", nil},
		{"b@x q@y,b@x,r@x", nil},
		{"b@x r@x,c@x\nc@x q@y,c@x", nil},
		{"b@x r@x,c@x\nc@x c@x,q@y", nil},
	} {
		a := made(t, text, x.more)
		if x.found == nil {
			fails(t, a, api.ErrAliasMany, at("b", "x"))
		} else {
			expands(t, a, at("b", "x"), boxes(x.found...)...)
		}
		expands(t, a, at("r", "x"), boxes(all...)...)
	}
	one := strings.Join(all[:100], ",")
	expands(t, made(t, "b@x "+one), at("b", "x"), boxes(all[:100]...)...)
	expands(t, made(t, "b@x "+strings.Join(all[:99], ",")+",b@x"), at("b", "x"), append(boxes(all[:99]...), at("b", "x"))...)
}

// TestP16_3Selves: 200 who stand for themselves, each behind the other, are found; they lie too deep, if they are found one by the other alone.
func TestP16_3Selves(t *testing.T) {
	for _, n := range []int{2, 50, 51, 52, 200} {
		l := numbered(n, "k")
		var line []string
		for i, s := range l {
			line = append(line, s+" "+s+","+l[min(i+1, n-1)])
		}
		a := made(t, rows(line...))
		if n <= 51 {
			expands(t, a, box(l[0]), boxes(l...)...)
		} else {
			fails(t, a, api.ErrAliasDeep, box(l[0]))
		}
	}
	for _, n := range []int{199, 200, 201, 202} {
		text, all := wide("r@x", n)
		for _, s := range all {
			text += s + " " + s + ",r@x," + all[0] + "\n"
		}
		a := made(t, text)
		if n <= 200 {
			expands(t, a, at("r", "x"), boxes(all...)...)
		} else {
			fails(t, a, api.ErrAliasMany, at("r", "x"))
		}
	}
}

// TestP16_3WhichError: the error that comes first ends it all; that none is found is told of what came to its end alone.
func TestP16_3WhichError(t *testing.T) {
	deep := chain(numbered(60, "k")...) // k10 is the first one that is not too far away behind another one
	many, _ := wide("r@x", 201)
	full, all := wide("f@x", 200)
	tables := []string{deep, many, full, rows("l@x m@x", "m@x l@x")}
	for value, want := range map[string]api.Errno{
		"k0@x,r@x":       api.ErrAliasDeep,
		"r@x,k0@x":       api.ErrAliasMany,
		"f@x,k0@x":       api.ErrAliasDeep,
		"f@x,k9@x":       api.ErrAliasDeep,
		"f@x,k10@x":      api.ErrAliasMany,
		"f@x,k20@x,k0@x": api.ErrAliasMany,
		"f@x,k0@x,k20@x": api.ErrAliasDeep,
		"k20@x,f@x,k0@x": api.ErrAliasMany,
		"k20@x,k0@x,f@x": api.ErrAliasMany,
		"k20@x,k0@x,r@x": api.ErrAliasMany,
		"f@x,q@y,k0@x":   api.ErrAliasMany,
		"f@x,k0@x,q@y":   api.ErrAliasDeep,
		"f@x,b@x,k0@x":   api.ErrAliasMany,
		"f@x,k0@x,b@x":   api.ErrAliasDeep,
		"k0@x,q@y,f@x":   api.ErrAliasDeep,
		"l@x,k0@x":       api.ErrAliasDeep,
		"k9@x,l@x":       api.ErrAliasDeep,
		"l@x,r@x":        api.ErrAliasMany,
		"r@x,l@x":        api.ErrAliasMany,
		"l@x,m@x":        api.ErrAliasLoop,
		"l@x":            api.ErrAliasLoop,
		"m@x,l@x,m@x":    api.ErrAliasLoop,
	} {
		fails(t, made(t, append(tables, "b@x "+value)...), want, at("b", "x"))
	}
	for value, found := range map[string][]string{
		"k15@x,k0@x":        {"k59@x"},
		"k12@x,k11@x,k10@x": {"k59@x"},
		"k10@x,l@x,q@y":     {"k59@x", "q@y"},
		"l@x,m@x,b@x":       {"b@x"},
		"l@x,q@y,q@y,l@x":   {"q@y"},
		"l@x,f@x":           all,
		"f@x,l@x,m@x,f0@x":  all,
	} {
		expands(t, made(t, append(tables, "b@x "+value)...), at("b", "x"), boxes(found...)...)
	}
	expands(t, made(t, tables...), at("f", "x"), boxes(all...)...)
}
