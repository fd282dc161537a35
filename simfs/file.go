package simfs

import "slices"

// file knows its bytes twice: those which a crash can't take are changed by a sync alone.
type file struct {
	number  int    // the how manieth of its disk it is
	path    string // empty: it is gone
	now     []byte
	lasting []byte
	writes  []write // those that wait, in their order
	waiting int     // how many bytes these have
}

// write puts bytes in the place of those from at on; at is the end at the most.
type write struct {
	at    int
	bytes []byte
}

// on is b behind the write.
func (w write) on(b []byte) []byte {
	n := copy(b[w.at:], w.bytes)
	return append(b, w.bytes[n:]...)
}

func (f *file) write(at int, b []byte) {
	w := write{at, slices.Clone(b)}
	f.now = w.on(f.now)
	f.writes = append(f.writes, w)
	f.waiting += len(b)
}

// keep lets the first n waiting bytes last; then none waits.
func (f *file) keep(n int) {
	for _, w := range f.writes {
		if n <= 0 {
			break
		}
		w.bytes = w.bytes[:min(n, len(w.bytes))]
		f.lasting = w.on(f.lasting)
		n -= len(w.bytes)
	}
	f.writes, f.waiting = nil, 0
}

// forget lets go of the bytes of a file that is gone for good; how many of them wait is told further on.
func (f *file) forget() {
	f.lasting, f.writes = nil, nil
}

// copied is the one copy of a file, wherever it is met.
func (f *file) copied(copies map[int]*file) *file {
	if f == nil {
		return nil
	}
	if c := copies[f.number]; c != nil {
		return c
	}
	c := *f
	c.now = slices.Clone(f.now)
	c.lasting = slices.Clone(f.lasting)
	c.writes = slices.Clone(f.writes)
	for i, w := range f.writes {
		c.writes[i].bytes = slices.Clone(w.bytes)
	}
	copies[f.number] = &c
	return &c
}

func copied[K comparable](files map[K]*file, copies map[int]*file) map[K]*file {
	m := make(map[K]*file, len(files))
	for k, f := range files {
		m[k] = f.copied(copies)
	}
	return m
}
