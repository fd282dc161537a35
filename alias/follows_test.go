package alias_test

import (
	"fmt"
	"slices"
	"strings"
	"testing"

	"waybill/alias"
	"waybill/api"
)

// reached are all who are come to from a mailbox by Direct, itself too; and those of them who stand for none or for themselves.
func reached(a *alias.Alias, p api.Path) (all, last map[api.Path]bool) {
	all, last = map[api.Path]bool{p: true}, map[api.Path]bool{}
	for waiting := []api.Path{p}; len(waiting) > 0; {
		q := waiting[0]
		waiting = waiting[1:]
		l, is := a.Direct(q)
		if !is || slices.Contains(l, q) {
			last[q] = true
		}
		for _, next := range l {
			if !all[next] {
				all[next] = true
				waiting = append(waiting, next)
			}
		}
	}
	return all, last
}

// follow wants what P16.4 says of a mailbox that may be; it tells which error there was.
func follow(t *testing.T, a *alias.Alias, p api.Path) api.Errno {
	t.Helper()
	l, e := a.Expand(p)
	all, last := reached(a, p)
	isSo := len(l) == 0
	switch e {
	case api.OK:
		told := map[api.Path]bool{}
		for _, q := range l {
			if told[q] || !last[q] {
				t.Fatalf("Expand(%s): %s: %s is told twice, or is none of those", named(p), listed(l), named(q))
			}
			told[q] = true
		}
		isSo = len(l) == len(last) && len(l) <= 200
	case api.ErrAliasLoop:
		isSo = isSo && len(last) == 0
	case api.ErrAliasMany:
		isSo = isSo && len(last) > 200
	case api.ErrAliasDeep:
		isSo = isSo && len(all) > 51 // as many lie one behind the other
	default:
		isSo = false
	}
	if !isSo {
		t.Fatalf("Expand(%s): %s %v: %d are come to, %d to be told", named(p), listed(l), e, len(all), len(last))
	}
	return e
}

func TestP16_4Examples(t *testing.T) {
	a := made(t, given)
	for _, s := range []string{"a@x", "b@x", "c@y", "d@z", "l@x", "m@x", "s@x", "t@x", "q@w", "all@v", "postmaster", "q@[10.0.0.1]"} {
		follow(t, a, box(s))
	}
}

// everyGraph calls do with each table in which each of these stands for none or for up to n of them all.
func everyGraph(names []string, n int, do func(table string)) {
	values := []string{""}
	for from := 0; n > 0; n-- {
		upto := len(values)
		for ; from < upto; from++ {
			for _, name := range names {
				values = append(values, strings.TrimPrefix(values[from]+","+name, ","))
			}
		}
	}
	var lay func(table string, left []string)
	lay = func(table string, left []string) {
		if len(left) == 0 {
			do(table)
			return
		}
		for _, value := range values {
			if value == "" {
				lay(table, left[1:])
			} else {
				lay(table+left[0]+" "+value+"\n", left[1:])
			}
		}
	}
	lay("", names)
}

// TestP16_4Graphs: whoever of a few stands for whom of them.
func TestP16_4Graphs(t *testing.T) {
	agree := func(names []string) func(table string) {
		l := boxes(names...)
		return func(table string) {
			a := made(t, table)
			m, _ := modelNew([]string{table})
			for _, p := range l {
				want, code := m.expand(p)
				if got, e := a.Expand(p); e != code || !slices.Equal(got, want) {
					t.Fatalf("%q: Expand(%s): %s %v, not %s %v", table, named(p), listed(got), e, listed(want), code)
				}
				follow(t, a, p)
			}
		}
	}
	everyGraph([]string{"a@x", "b@x"}, 4, agree([]string{"a@x", "b@x"}))
	everyGraph([]string{"a@x", "b@x", "c@x"}, 2, agree([]string{"a@x", "b@x", "c@x"}))
	everyGraph([]string{"a@x", "b@x", "c@x", "d@x"}, 1, agree([]string{"a@x", "b@x", "c@x", "d@x"}))
}

// TestP16_4Edges: at the bounds, too, nobody is left out of what is told.
func TestP16_4Edges(t *testing.T) {
	for n := 49; n <= 53; n++ {
		l := numbered(n, "k")
		for _, end := range []string{"", l[n-1] + " " + l[n-1], l[n-1] + " " + l[0], l[n-1] + " " + l[n/2] + ",q@y", l[n-1] + " postmaster@y"} {
			a := made(t, chain(l...)+end)
			for _, s := range l {
				follow(t, a, box(s))
			}
		}
	}
	for n := 198; n <= 202; n++ {
		for _, text := range []string{"@z b@y", "r0@x r0@x", "r0@x q@y,w@y", "@y r@x", "r7@x r@x"} {
			table, all := wide("r@x", n)
			a := made(t, table, text)
			follow(t, a, at("r", "x"))
			for _, s := range all[:9] {
				follow(t, a, box(s))
			}
		}
	}
}

// TestP16_4Ends: however many stand for however many, all of them in loops, it ends.
func TestP16_4Ends(t *testing.T) {
	var groups, around []string
	for i := range 20 {
		groups = append(groups, fmt.Sprintf("g%d@x", i))
	}
	for range 5 {
		around = append(around, groups...)
	}
	var tables []string
	for i := range 5 {
		text := ""
		for j := range 4 {
			n := 4*i + j
			var l []string
			for k := range 100 {
				l = append(l, fmt.Sprintf("k%d.%d@x", n, k))
				text += l[k] + " " + strings.Join(around, ",") + "\n"
			}
			text += groups[n] + " " + strings.Join(l, ",") + "\n"
		}
		tables = append(tables, text)
	}
	for _, s := range []string{"g0@x", "g19@x", "k0.0@x", "k7.50@x"} {
		if e := follow(t, made(t, tables...), box(s)); e != api.ErrAliasLoop {
			t.Errorf("%s: %v", s, e)
		}
		if e := follow(t, made(t, append(tables, "k19.99@y k0.0@x", "@x q@y")...), box(s)); e != api.ErrAliasLoop {
			t.Errorf("%s: %v", s, e)
		}
		if e := follow(t, made(t, append([]string{"k19.99@x q@y,g3@x"}, tables...)...), box(s)); e != api.OK {
			t.Errorf("%s: %v", s, e)
		}
	}
	var all []string // 10000 at one domain, who stand for the same 100
	for i := range 100 {
		all = append(all, fmt.Sprintf("h%d@r", i))
	}
	first := "r@r " + strings.Join(all, ",") + "\n"
	for i, s := range all {
		var l []string
		for j := range 100 {
			l = append(l, fmt.Sprintf("%d.%d@x", i, j))
		}
		first += s + " " + strings.Join(l, ",") + "\n"
	}
	a := made(t, first, "@x "+strings.Join(all, ",")+"\n")
	if _, e := a.Expand(at("r", "r")); e != api.ErrAliasDeep {
		t.Error(e)
	}
	a = made(t, first, "@x "+strings.Repeat("r@r,", 99)+"r@r\n")
	fails(t, a, api.ErrAliasLoop, at("r", "r"))
}
