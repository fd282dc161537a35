package simfs

import (
	"strings"

	"waybill/api"
)

// change is an entry change that waits; of a Create the file is known, as no path leads to it ahead of that.
type change struct {
	api.FsChange
	file *file
}

// paths is a set of them.
type paths map[string]struct{}

func (p paths) add(c change) {
	if c.From != "" {
		p[c.From] = struct{}{}
	}
	if c.To != "" {
		p[c.To] = struct{}{}
	}
}

func (p paths) share(c change) bool {
	_, from := p[c.From]
	_, to := p[c.To]
	return from || to
}

func (c change) within(dir string) bool {
	return strings.HasPrefix(c.From, dir+"/") || strings.HasPrefix(c.To, dir+"/")
}

// do changes entries: the file that lost its path by that, if one did.
func (c change) do(entries map[string]*file) *file {
	if c.Kind == api.FsCreate {
		entries[c.To] = c.file
		return nil
	}
	f := entries[c.From]
	delete(entries, c.From)
	if c.Kind == api.FsUnlink {
		return f
	}
	gone := entries[c.To]
	entries[c.To] = f
	return gone
}

// told are the changes as the disk tells them.
func told(l []change) []api.FsChange {
	var tell []api.FsChange
	i := 0
next:
	if i == len(l) {
		return tell
	}
	tell = append(tell, l[i].FsChange)
	i++
	goto next
}

// toLast chooses the changes that a sync of a directory brings to last. It goes from the last one to the first, as one on which others lean stands ahead of them.
func toLast(l []change, dir string) []bool {
	chosen := make([]bool, len(l))
	leanedOn := paths{}
	i := len(l)
back:
	if i == 0 {
		return chosen
	}
	i--
	if !l[i].within(dir) && !leanedOn.share(l[i]) {
		goto back
	}
	chosen[i] = true
	leanedOn.add(l[i])
	goto back
}

// survivors chooses the changes that survive of those that are to be kept: none that leans on a lost one.
func survivors(l []change, keep []bool) []bool {
	chosen := make([]bool, len(l))
	lost := paths{}
	i := 0
next:
	if i == len(l) {
		return chosen
	}
	if i < len(keep) && keep[i] && !lost.share(l[i]) {
		chosen[i] = true
	} else {
		lost.add(l[i])
	}
	i++
	goto next
}

// settle does the chosen changes to the entries that last: the other ones, which wait further on. With each chosen one all on which it leans are chosen.
func settle(l []change, chosen []bool, lasting map[string]*file) []change {
	var rest []change
	i := 0
next:
	if i == len(l) {
		return rest
	}
	if !chosen[i] {
		rest = append(rest, l[i])
	} else if gone := l[i].do(lasting); gone != nil {
		gone.forget() // no change that waits can bring it back
	}
	i++
	goto next
}
