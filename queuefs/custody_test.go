package queuefs_test

import (
	"fmt"
	"math/rand/v2"
	"slices"
	"strconv"
	"strings"
	"testing"

	"waybill/api"
	"waybill/queuefs"
	"waybill/record"
	"waybill/simfs"
)

// An entry is what is known of a message that was to be put.
type entry struct {
	m        api.Message
	id       string   // empty: none was told, and it was not met
	sure     bool     // it must be there
	removing bool     // a Remove was asked for
	dirs     []string // where it may lie
	marks    [][]byte // of each recipient those that it may have
	lines    []string // those of its log, if all that was asked for is there
	told     int      // so many of them must be there
	dropping bool     // a Drop was asked for
}

// A ledger asks a Queue for what a test wants, and notes what has to be there by that (P4.7 to P4.9).
type ledger struct {
	t       *testing.T
	what    string
	d       *simfs.Disk
	q       *queuefs.Queue
	entries []*entry // by the numbers of their messages
	ids     map[string]int
}

func newLedger(t *testing.T, what string, d *simfs.Disk, q *queuefs.Queue) *ledger {
	return &ledger{t: t, what: what, d: d, q: q, ids: map[string]int{}}
}

func (l *ledger) fail(what ...any) {
	l.t.Helper()
	l.t.Fatal(l.what, fmt.Sprintln(what...), state(l.d))
}

// names notes an id: no other message has it, or ever had it.
func (l *ledger) names(n int, id string) {
	if of, is := l.ids[id]; is && of != n {
		l.fail(id, "is told of", of, "and of", n)
	}
	if l.entries[n].id != "" && l.entries[n].id != id {
		l.fail("message", n, "comes twice:", id, l.entries[n].id)
	}
	l.ids[id], l.entries[n].id = n, id
}

func (l *ledger) put(dir string) api.Errno {
	n := len(l.entries)
	m := letter(n)
	x := &entry{m: m, dirs: []string{dir}}
	for _, r := range m.Rcpts {
		x.marks = append(x.marks, []byte{r.Mark})
	}
	l.entries = append(l.entries, x)
	id, e := l.q.Put(dir, m)
	if (id != "") != (e == api.OK) {
		l.fail("Put:", id, e)
	}
	if e == api.OK {
		if _, is := l.ids[id]; is {
			l.fail(id, "is told again")
		}
		l.names(n, id)
		x.sure = true
	}
	return e
}

func (l *ledger) move(x *entry, to string) api.Errno {
	from, _ := l.q.Where(x.id)
	e := l.q.Move(x.id, to)
	switch {
	case e == api.ErrQueueNone || e == api.OK && from == to:
	case e == api.OK:
		x.dirs = []string{to}
	default:
		x.dirs = append(x.dirs, to)
	}
	return e
}

func (l *ledger) mark(x *entry, i int, mark byte) api.Errno {
	e := l.q.Mark(x.id, i, mark)
	switch e {
	case api.ErrQueueNone:
	case api.OK:
		x.marks[i] = []byte{mark}
	default:
		x.marks[i] = append(x.marks[i], mark)
	}
	return e
}

func (l *ledger) log(x *entry, line string) api.Errno {
	before, unread := l.q.Logged(x.id)
	e := l.q.Log(x.id, line)
	switch e {
	case api.ErrQueueNone:
		return e
	case api.OK:
		x.lines = append(before, line)
		x.told = len(x.lines)
		return e
	}
	if unread != api.OK || l.d.Off() { // only a crash tells which of them are there
		x.lines = append(x.lines, line)
		return e
	}
	x.lines, _ = l.q.Logged(x.id)
	if !slices.Equal(x.lines, before) && !slices.Equal(x.lines, append(before, line)) {
		l.fail("Log:", e, x.lines)
	}
	return e
}

func (l *ledger) drop(x *entry) api.Errno {
	e := l.q.Drop(x.id)
	if e == api.OK {
		x.lines, x.told = nil, 0
	} else if e != api.ErrQueueNone {
		x.dropping = true
	}
	return e
}

func (l *ledger) remove(x *entry) api.Errno {
	e := l.q.Remove(x.id)
	if e == api.OK {
		x.dirs = nil
	}
	if e != api.ErrQueueNone {
		x.removing = true
	}
	return e
}

// met is a message in a file, and that it may be there so.
func (l *ledger) met(dir, name string) *entry {
	b, _ := l.d.Read(dir + "/" + name)
	m, e := record.Decode(b)
	n := m.Time
	if e != api.OK || n >= len(l.entries) {
		l.fail("in", dir, "lies", name, string(b))
	}
	x := l.entries[n]
	l.names(n, name)
	if !slices.Contains(x.dirs, dir) {
		l.fail(name, "lies in", dir, "not in", x.dirs)
	}
	for i, r := range m.Rcpts {
		if !slices.Contains(x.marks[i], r.Mark) {
			l.fail(name, "has marks", m.Rcpts, "of", x.marks)
		}
		m.Rcpts[i].Mark = x.m.Rcpts[i].Mark
	}
	if !sameMessage(m, x.m) {
		l.fail(name, "is another message:", m)
	}
	return x
}

// rightLog tells whether Logged of a message that is there is right.
func (l *ledger) rightLog(x *entry) {
	lines, e := l.q.Logged(x.id)
	if e != api.OK {
		l.fail("Logged:", e)
	}
	if !x.dropping && !x.removing && (len(lines) < x.told || !slices.Equal(lines, x.lines[:min(len(lines), len(x.lines))])) {
		l.fail(x.id, "has the log", lines, "of", x.lines, "with", x.told)
	}
}

// check goes through all that lies there behind an Open, and notes that it lasts, if it does.
func (l *ledger) check(found api.QueueFound, lasts bool) {
	seen := map[*entry]bool{}
	messages := 0
	for _, dir := range append(slices.Clone(theQueues), "corrupt") {
		names, e := l.q.List(dir)
		if e != api.OK || dir == "active" && len(names) > 0 {
			l.fail("List:", dir, names, e)
		}
		for _, name := range names {
			x := l.met(dir, name)
			if seen[x] {
				l.fail(name, "lies there twice")
			}
			seen[x] = true
			if dir != "corrupt" {
				messages++
				l.sameAsLoaded(dir, name)
			}
			if lasts {
				l.settle(x, dir)
			}
		}
	}
	for n, x := range l.entries {
		if x.sure && !x.removing && !seen[x] {
			l.fail("message", n, x.id, "is lost")
		}
		if lasts && !seen[x] {
			x.dirs, x.sure = nil, false
		}
	}
	if found.Messages != messages || found.Corrupt != 0 {
		l.fail("found", found)
	}
	if names, _ := l.d.List("tmp"); lasts && len(names) > 1 {
		l.fail("in tmp lie", names)
	}
}

func (l *ledger) sameAsLoaded(dir, name string) {
	b, _ := l.d.Read(dir + "/" + name)
	m, e := l.q.Load(name)
	if where, is := l.q.Where(name); e != api.OK || string(b) != bytesOf(l.t, m) || where != dir || !is {
		l.fail("Load, Where:", m, e, where, is)
	}
	l.rightLog(l.entries[m.Time])
}

// settle notes that nothing of a message waits any more.
func (l *ledger) settle(x *entry, dir string) {
	b, _ := l.d.Read(dir + "/" + x.id)
	m, _ := record.Decode(b)
	x.sure, x.removing, x.dirs = true, false, []string{dir}
	for i, r := range m.Rcpts {
		x.marks[i] = []byte{r.Mark}
	}
	x.lines, _ = l.q.Logged(x.id)
	x.told, x.dropping = len(x.lines), false
}

// open opens the disk, behind a crash (or not), and checks it, if no change is refused.
func (l *ledger) open(crashed bool) api.Errno {
	for _, x := range l.entries {
		if slices.Contains(x.dirs, "active") {
			x.dirs = append(slices.Clone(x.dirs), "incoming")
		}
	}
	q, found, e := queuefs.Open(l.d)
	if e != api.OK {
		if q != nil || found != (api.QueueFound{}) {
			l.fail("Open:", e, found)
		}
		return e
	}
	l.q = q
	l.check(found, crashed)
	return e
}

// crash lets the power go and come back, and opens the disk; the last Open must be right.
func (l *ledger) crash(k api.FsKeep) {
	l.d.Crash(k)
	if e := l.open(true); e != api.OK {
		l.fail("Open behind a crash:", e)
	}
}

// keeps are ways in which something of what waits survives.
const keeps = 9

func keep(d *simfs.Disk, way int) api.FsKeep {
	changes, writes := d.Wait()
	var k api.FsKeep
	for i := range changes {
		k.Changes = append(k.Changes, []bool{false, true, true, false, i < len(changes)/2, i%2 == 0, i%2 == 1, i < len(changes)-1, i == len(changes)-1}[way])
	}
	for _, w := range writes {
		k.Writes = append(k.Writes, []int{0, w.Bytes, 0, w.Bytes, w.Bytes / 2, 1, w.Bytes - 1, 3, w.Bytes}[way])
	}
	return k
}

// subsets are all ways in which a few changes survive, with several numbers of bytes.
func subsets(d *simfs.Disk) []api.FsKeep {
	changes, writes := d.Wait()
	var l []api.FsKeep
	for bits := range 1 << min(len(changes), 5) {
		var k api.FsKeep
		for i := range changes {
			k.Changes = append(k.Changes, bits>>min(i, 4)&1 == 1)
		}
		for part := range 5 {
			k.Writes = nil
			for _, w := range writes {
				k.Writes = append(k.Writes, []int{0, 1, w.Bytes / 2, w.Bytes - 1, w.Bytes}[part])
			}
			l = append(l, k)
		}
	}
	return l
}

// story asks for one thing of each kind behind another, up to the first that is refused; whether one was.
func (l *ledger) story() bool {
	first, second := 0, 1
	at := func(n int) *entry { return l.entries[n] }
	for _, ask := range []func() api.Errno{
		func() api.Errno { return l.put("incoming") },
		func() api.Errno { return l.move(at(first), "active") },
		func() api.Errno { return l.put("maildrop") },
		func() api.Errno { return l.mark(at(first), 0, 'D') },
		func() api.Errno { return l.log(at(first), "one") },
		func() api.Errno { return l.log(at(first), "") },
		func() api.Errno { return l.log(at(second), "first") },
		func() api.Errno { return l.log(at(first), "2:x,") },
		func() api.Errno { return l.mark(at(first), 1, 'B') },
		func() api.Errno { return l.mark(at(first), 0, 'P') },
		func() api.Errno { return l.move(at(first), "deferred") },
		func() api.Errno { return l.move(at(second), "hold") },
		func() api.Errno { return l.put("active") },
		func() api.Errno { return l.move(at(first), "active") },
		func() api.Errno { return l.drop(at(second)) },
		func() api.Errno { return l.log(at(second), "second") },
		func() api.Errno { return l.move(at(2), "corrupt") },
		func() api.Errno { return l.remove(at(second)) },
		func() api.Errno { return l.mark(at(first), 2, 'D') },
		func() api.Errno { return l.put("active") },
		func() api.Errno { return l.log(at(3), "x") },
		func() api.Errno { return l.drop(at(3)) },
		func() api.Errno { return l.remove(at(3)) },
	} {
		if ask() != api.OK {
			return true
		}
	}
	return false
}

// told plays the story up to where the power goes ahead of the n-th change (or that is refused); false, if there are fewer changes.
func told(t *testing.T, n int, refusal api.Errno) (*ledger, bool) {
	d, q := fresh(t)
	l := newLedger(t, fmt.Sprintf("change %d (%v): ", n, refusal), d, q)
	if refusal == api.ErrFsOff {
		fine(t, d.Arm(n))
	} else {
		fine(t, d.Fail(n, refusal))
	}
	return l, l.story()
}

// TestP4_7PowerGoesOnce lets the power go ahead of each change of the story, with every few of what waits surviving.
func TestP4_7PowerGoesOnce(t *testing.T) {
	for n := 1; ; n++ {
		l, went := told(t, n, api.ErrFsOff)
		for i, k := range subsets(l.d) {
			l, _ := told(t, n, api.ErrFsOff)
			l.what += fmt.Sprintf("%d survive: ", i)
			l.crash(k)
			l.story() // the queue is as good as ever; the first message may have been removed by now
			l.crash(keep(l.d, i%keeps))
		}
		if !went {
			if n < 60 {
				t.Error("the story has", n-1, "changes")
			}
			return
		}
	}
}

// TestP4_7RefusedAndPowerGoes refuses each change of the story, and then lets the power go.
func TestP4_7RefusedAndPowerGoes(t *testing.T) {
	for n := 1; ; n++ {
		went := false
		for _, e := range refusals {
			l, _ := told(t, n, e)
			for _, k := range subsets(l.d) {
				l, refused := told(t, n, e)
				went = went || refused
				l.crash(k)
			}
			for way := range keeps {
				l, _ := told(t, n, e)
				fine(t, l.d.Fail(0, e))
				if e := l.open(false); e != api.OK {
					l.fail("Open:", e)
				}
				l.crash(keep(l.d, way))
			}
		}
		if !went {
			return
		}
	}
}

// TestP4_7PowerGoesAgain lets it go once more ahead of each change by which Open puts the disk right, and once more behind that.
func TestP4_7PowerGoesAgain(t *testing.T) {
	for n := 1; ; n++ {
		l, went := told(t, n, api.ErrFsOff)
		for way := range keeps {
			for m := 1; ; m++ {
				again := false
				for then := range keeps {
					l, _ = told(t, n, api.ErrFsOff)
					l.what += fmt.Sprintf("%d; change %d of Open; %d: ", way, m, then)
					l.d.Crash(keep(l.d, way))
					fine(t, l.d.Arm(m))
					again = l.open(true) == api.ErrFsOff
					l.d.Crash(keep(l.d, then))
					fine(t, l.d.Arm(1+(m+then)%7))
					if l.open(true) != api.OK {
						l.d.Crash(keep(l.d, (then+way)%keeps))
					}
					l.crash(keep(l.d, m%keeps))
				}
				if !again {
					break
				}
			}
		}
		if !went {
			return
		}
	}
}

// TestP4_8IdsBehindCrashes: the power goes ahead of each change of many Puts and Removes; no id is told twice, though nothing is left that has it.
func TestP4_8IdsBehindCrashes(t *testing.T) {
	for n := 1; n <= 12; n++ {
		for way := range keeps {
			d, q := fresh(t)
			l := newLedger(t, fmt.Sprintf("change %d, %d: ", n, way), d, q)
			for range 30 {
				for i := range n % 4 {
					if l.put("incoming") == api.OK && i%2 == 0 {
						l.remove(l.entries[len(l.entries)-1])
					}
				}
				fine(t, d.Arm(n))
				for !d.Off() {
					if l.put("incoming") == api.OK {
						l.remove(l.entries[len(l.entries)-1])
					}
				}
				l.crash(keep(d, way))
			}
		}
	}
}

// TestP4_8IdsBehindRefusals: when how far ids may go could not be written down, none of them is told.
func TestP4_8IdsBehindRefusals(t *testing.T) {
	for n := 1; n <= 10; n++ {
		for way := range keeps {
			for _, refusal := range refusals {
				d, q := fresh(t)
				l := newLedger(t, fmt.Sprintf("change %d, %d: ", n, way), d, q)
				for range 20 {
					fine(t, d.Fail(n, refusal))
					l.put("hold")
					fine(t, d.Fail(0, refusal))
					for range n % 3 {
						if e := l.put("hold"); e != api.OK {
							l.fail("Put:", e)
						}
						l.remove(l.entries[len(l.entries)-1])
					}
					l.crash(keep(d, way))
				}
			}
		}
	}
}

// TestP4_9Torn: of a line that did not last as much survives as may be; the others are there.
func TestP4_9Torn(t *testing.T) {
	line := strings.Repeat("x", 120)
	for n := 1; n <= 4; n++ {
		for bytes := range len(textsOf(t, line)) + 2 {
			for _, changes := range [][]bool{nil, {true}} {
				for lines := range 3 {
					d, q := fresh(t)
					l := newLedger(t, fmt.Sprint(n, bytes, changes, lines, ": "), d, q)
					fine(t, l.put("hold"))
					for i := range lines {
						fine(t, l.log(l.entries[0], strconv.Itoa(i)))
					}
					fine(t, d.Arm(n))
					l.log(l.entries[0], line)
					l.crash(api.FsKeep{Changes: changes, Writes: []int{bytes}})
					fine(t, l.log(l.entries[0], "more"))
					l.crash(nothing())
				}
			}
		}
	}
}

// any asks a Queue for anything.
func (l *ledger) any(r *rand.Rand) {
	dir := theQueues[r.IntN(5)]
	if len(l.entries) == 0 || r.IntN(4) == 0 {
		l.put(dir)
		return
	}
	x := l.entries[max(0, len(l.entries)-1-r.IntN(6))]
	if x.id == "" {
		return
	}
	switch n := r.IntN(40); {
	case n < 10:
		l.move(x, dir)
	case n < 11:
		l.move(x, "corrupt")
	case n < 23:
		l.mark(x, r.IntN(3), "PDBX"[r.IntN(4)])
	case n < 35:
		l.log(x, strings.Repeat("y", r.IntN(30)))
	case n < 37:
		l.drop(x)
	default:
		l.remove(x)
	}
}

func randomKeep(r *rand.Rand, d *simfs.Disk) api.FsKeep {
	changes, writes := d.Wait()
	odds := r.IntN(5) + 1
	var k api.FsKeep
	for range changes {
		k.Changes = append(k.Changes, r.IntN(odds) > 0)
	}
	for _, w := range writes {
		k.Writes = append(k.Writes, r.IntN(w.Bytes+1))
	}
	return k
}

// TestP4_7ByChance plays long histories of calls, refusals, deaths and openings.
func TestP4_7ByChance(t *testing.T) {
	for seed := range uint64(400) {
		r := rand.New(rand.NewPCG(seed, 4))
		d, q := fresh(t)
		l := newLedger(t, fmt.Sprintf("seed %d: ", seed), d, q)
		for range 12 {
			switch r.IntN(3) {
			case 0:
				fine(t, d.Arm(1+r.IntN(60)))
			case 1:
				fine(t, d.Fail(1+r.IntN(30), refusals[r.IntN(2)]))
			}
			for range r.IntN(25) {
				l.any(r)
			}
			if r.IntN(4) == 0 && !d.Off() && l.open(false) != api.ErrFsOff {
				continue
			}
			for range r.IntN(4) {
				d.Crash(randomKeep(r, d))
				fine(t, d.Arm(1+r.IntN(12)), d.Fail(r.IntN(12), api.ErrFsIo))
				l.open(true)
			}
			l.crash(randomKeep(r, d))
		}
	}
}
