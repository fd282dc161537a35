package alias_test

import (
	"regexp"
	"slices"
	"strings"

	"waybill/api"
	"waybill/path"
	"waybill/table"
)

// The model is the chapter's words: entries in rows, values cut in every way there is, an expansion without recursion.

var blanksAbout = regexp.MustCompile(`\A[ \t]*(.*?)[ \t]*\z`)

type entry struct {
	key   string
	boxes []api.Path
}

type model [][]entry

func lowered(s string) string {
	return strings.Map(func(r rune) rune {
		if 'A' <= r && r <= 'Z' {
			return r - 'A' + 'a'
		}
		return r
	}, s)
}

// modelValue are the mailboxes of a value, if it is some, in whichever way it is cut at commas.
func modelValue(value string) ([]api.Path, bool) {
	var from func(s string) ([]api.Path, bool)
	from = func(s string) ([]api.Path, bool) {
		for i := 0; i <= len(s); i++ {
			if i < len(s) && s[i] != ',' {
				continue
			}
			p, e := path.Mailbox(blanksAbout.FindStringSubmatch(s[:i])[1])
			if e != api.OK || p == null || p == at("postmaster", "") {
				continue
			}
			if i == len(s) {
				return []api.Path{p}, true
			}
			if l, is := from(s[i+1:]); is {
				return append([]api.Path{p}, l...), true
			}
		}
		return nil, false
	}
	l, is := from(value)
	if !is || len(l) > 100 {
		return nil, false
	}
	return l, true
}

func modelNew(tables []string) (model, api.Errno) {
	if len(tables) > 8 {
		return nil, api.ErrArg
	}
	var m model
	for _, text := range tables {
		x, f := table.Parse(text)
		if f.Code != api.OK {
			return nil, api.ErrAliasForm
		}
		var l []entry
		for k := 0; k < x.Len(); k++ {
			key, value, _ := x.At(k)
			boxes, is := modelValue(value)
			if !is {
				return nil, api.ErrAliasForm
			}
			l = append(l, entry{key, boxes})
		}
		m = append(m, l)
	}
	return m, api.OK
}

// direct is what the first table says that has something of a mailbox.
func (m model) direct(p api.Path) ([]api.Path, bool) {
	if p.Null || p.Literal || p.Domain == "" || path.Right(p) != api.OK {
		return nil, false
	}
	for _, l := range m {
		for _, key := range []string{lowered(p.Local + "@" + p.Domain), lowered("@" + p.Domain)} {
			for _, x := range l {
				if x.key == key {
					return x.boxes, true
				}
			}
		}
	}
	return nil, false
}

// task is a mailbox that is still to be expanded; of whom it is one.
type task struct {
	box, of api.Path
	depth   int
}

func (m model) expand(p api.Path) ([]api.Path, api.Errno) {
	if p == null || path.Right(p) != api.OK {
		return nil, api.ErrArg
	}
	var met, found []api.Path
	for tasks := []task{{p, null, 0}}; len(tasks) > 0; {
		next := tasks[0]
		tasks = tasks[1:]
		isFound := next.box == next.of
		if !isFound {
			if slices.Contains(met, next.box) {
				continue
			}
			met = append(met, next.box)
			if next.depth == 51 {
				return nil, api.ErrAliasDeep
			}
			l, is := m.direct(next.box)
			var more []task
			for _, q := range l {
				more = append(more, task{q, next.box, next.depth + 1})
			}
			tasks = append(more, tasks...)
			isFound = !is
		}
		if isFound && !slices.Contains(found, next.box) {
			found = append(found, next.box)
		}
		if len(found) == 201 {
			return nil, api.ErrAliasMany
		}
	}
	if len(found) == 0 {
		return nil, api.ErrAliasLoop
	}
	return found, api.OK
}
