package queuefs_test

import (
	"fmt"
	"slices"
	"testing"

	"waybill/api"
	"waybill/queuefs"
	"waybill/record"
	"waybill/simfs"
)

// A scene is a call on a disk that was made ready for it, and the changes of the disk that the chapter lists for it, one behind the other.
type scene struct {
	name    string
	ready   func(t *testing.T, d *simfs.Disk) *queuefs.Queue
	call    func(d *simfs.Disk, q *queuefs.Queue) api.Errno
	changes []change
	then    api.Errno          // what is answered when none is refused
	undo    func(n int) change // what is done when the n-th is refused, if anything is
}

// putting is a Put as a call; -1 is an id that is told with an error.
func putting(dir string, m api.Message) func(*simfs.Disk, *queuefs.Queue) api.Errno {
	return func(_ *simfs.Disk, q *queuefs.Queue) api.Errno {
		id, e := q.Put(dir, m)
		if e != api.OK && id != "" {
			return -1
		}
		return e
	}
}

func opening(d *simfs.Disk, _ *queuefs.Queue) api.Errno {
	q, f, e := queuefs.Open(d)
	if e != api.OK && (q != nil || f != (api.QueueFound{})) {
		return -1
	}
	return e
}

// unlaid is what is done when a change of a Put is refused, behind those that go further.
func unlaid(ahead int, id, dir string) func(n int) change {
	return func(n int) change {
		switch n - ahead {
		case 2, 3, 4:
			return unlinks("tmp/" + id)
		case 5:
			return unlinks(dir + "/" + id)
		}
		return nil
	}
}

// twoMessages is a queue with Q1 in hold, which has a log, and Q2 in active.
func twoMessages(t *testing.T, d *simfs.Disk) *queuefs.Queue {
	q := opened(t, d, api.QueueFound{})
	put(t, q, "hold", letter(1), "Q1")
	put(t, q, "active", letter(2), "Q2")
	fine(t, q.Log("Q1", "a"))
	return q
}

func empty(t *testing.T, d *simfs.Disk) *queuefs.Queue {
	return opened(t, d, api.QueueFound{})
}

func on(ready func(t *testing.T, d *simfs.Disk) *queuefs.Queue, more func(t *testing.T, d *simfs.Disk, q *queuefs.Queue)) func(t *testing.T, d *simfs.Disk) *queuefs.Queue {
	return func(t *testing.T, d *simfs.Disk) *queuefs.Queue {
		q := ready(t, d)
		more(t, d, q)
		return q
	}
}

// with is a disk with a file that lies there ahead of Open.
func with(path, b string, found api.QueueFound) func(t *testing.T, d *simfs.Disk) *queuefs.Queue {
	return func(t *testing.T, d *simfs.Disk) *queuefs.Queue {
		lay(t, d, path, b)
		return opened(t, d, found)
	}
}

func asked(call func(q *queuefs.Queue) api.Errno) func(*simfs.Disk, *queuefs.Queue) api.Errno {
	return func(_ *simfs.Disk, q *queuefs.Queue) api.Errno { return call(q) }
}

func putScenes(t *testing.T) []scene {
	b := bytesOf(t, letter(3))
	left := on(empty, func(t *testing.T, d *simfs.Disk, q *queuefs.Queue) {
		fine(t, d.Fail(4, api.ErrFsIo))
		putError(t, q, "hold", letter(9), api.ErrFsIo)
	})
	unsure := on(empty, func(t *testing.T, d *simfs.Disk, q *queuefs.Queue) { // how far they may go stands there, but does not last yet
		fine(t, d.Fail(5, api.ErrFsIo))
		putError(t, q, "hold", letter(9), api.ErrFsIo)
	})
	full := on(empty, func(t *testing.T, d *simfs.Disk, q *queuefs.Queue) {
		for range 64 {
			if _, e := q.Put("deferred", letter(9)); e != api.OK {
				t.Fatal(e)
			}
		}
	})
	last := func(next string) func(t *testing.T, d *simfs.Disk) *queuefs.Queue {
		return with("tmp/next", next, api.QueueFound{})
	}
	all := []scene{
		{name: "Put, left tmp/next.new", ready: left, call: putting("hold", letter(3)), changes: slices.Concat([]change{unlinks("tmp/next.new")}, goesFurther("65"), queued("hold", "Q1", b)), undo: unlaid(6, "Q1", "hold")},
		{name: "Put, unsure", ready: unsure, call: putting("hold", letter(3)), changes: slices.Concat(goesFurther("65"), queued("hold", "Q1", b)), undo: unlaid(5, "Q1", "hold")},
		{name: "Put of the 65th", ready: full, call: putting("hold", letter(3)), changes: slices.Concat(goesFurther("129"), queued("hold", "Q65", b)), undo: unlaid(5, "Q65", "hold")},
		{name: "Put behind Open", ready: last("65;"), call: putting("hold", letter(3)), changes: slices.Concat(goesFurther("129"), queued("hold", "Q65", b)), undo: unlaid(5, "Q65", "hold")},
		{name: "Put of the last ids", ready: last("9007199254740928;"), call: putting("hold", letter(3)), changes: slices.Concat(goesFurther("9007199254740992"), queued("hold", "Q9007199254740928", b)), undo: unlaid(5, "Q9007199254740928", "hold")},
		{name: "Put without ids", ready: last("9007199254740929;"), call: putting("hold", letter(3)), changes: []change{creates("tmp/next.new")}, then: api.ErrQueueIds},
		{name: "Put, behind a great number", ready: with("corrupt/Q7", "x", api.QueueFound{}), call: putting("hold", letter(3)), changes: slices.Concat(goesFurther("72"), queued("hold", "Q8", b)), undo: unlaid(5, "Q8", "hold")},
		{name: "Put into no queue", ready: twoMessages, call: putting("corrupt", letter(3)), then: api.ErrQueueDir},
		{name: "Put of none", ready: twoMessages, call: putting("hold", api.Message{}), then: api.ErrRecordForm},
	}
	for _, dir := range theQueues {
		all = append(all,
			scene{name: "Put of the first into " + dir, ready: empty, call: putting(dir, letter(3)), changes: slices.Concat(goesFurther("65"), queued(dir, "Q1", b)), undo: unlaid(5, "Q1", dir)},
			scene{name: "Put into " + dir, ready: twoMessages, call: putting(dir, letter(3)), changes: queued(dir, "Q3", b), undo: unlaid(0, "Q3", dir)},
		)
	}
	return all
}

func otherScenes(t *testing.T) []scene {
	at, e := record.MarkAt(letter(2), 1)
	fine(t, e)
	noLog := on(twoMessages, func(t *testing.T, d *simfs.Disk, q *queuefs.Queue) { fine(t, q.Drop("Q1")) })
	all := []scene{
		{name: "Mark", call: asked(func(q *queuefs.Queue) api.Errno { return q.Mark("Q2", 1, 'D') }), changes: []change{writesAt("active/Q2", at, "D"), syncs("active/Q2")}},
		{name: "Mark as it is", call: asked(func(q *queuefs.Queue) api.Errno { return q.Mark("Q2", 1, 'P') }), changes: []change{writesAt("active/Q2", at, "P"), syncs("active/Q2")}},
		{name: "Mark Z", call: asked(func(q *queuefs.Queue) api.Errno { return q.Mark("Q2", 1, 'Z') }), then: api.ErrQueueMark},
		{name: "Remove", call: asked(func(q *queuefs.Queue) api.Errno { return q.Remove("Q2") }), changes: []change{unlinks("active/Q2"), syncsDir("active")}},
		{name: "Remove of none", call: asked(func(q *queuefs.Queue) api.Errno { return q.Remove("Q3") }), then: api.ErrQueueNone},
		{name: "first Log", ready: noLog, call: asked(func(q *queuefs.Queue) api.Errno { return q.Log("Q1", "b,") }), changes: []change{creates("bounce/Q1"), appends("bounce/Q1", "2:b,,"), syncs("bounce/Q1"), syncsDir("bounce")}},
		{name: "Log", call: asked(func(q *queuefs.Queue) api.Errno { return q.Log("Q1", "") }), changes: []change{appends("bounce/Q1", "0:,"), syncs("bounce/Q1"), syncsDir("bounce")}},
		{name: "Drop", call: asked(func(q *queuefs.Queue) api.Errno { return q.Drop("Q1") }), changes: []change{unlinks("bounce/Q1"), syncsDir("bounce")}},
		{name: "Drop of none", call: asked(func(q *queuefs.Queue) api.Errno { return q.Drop("Q2") }), then: api.ErrQueueNone},
		{name: "Load", call: asked(func(q *queuefs.Queue) api.Errno { _, e := q.Load("Q1"); return e })},
		{name: "Where", call: asked(func(q *queuefs.Queue) api.Errno { q.Where("Q1"); return api.OK })},
		{name: "List", call: asked(func(q *queuefs.Queue) api.Errno { _, e := q.List("hold"); return e })},
		{name: "Logged", call: asked(func(q *queuefs.Queue) api.Errno { _, e := q.Logged("Q1"); return e })},
	}
	for _, to := range append(slices.Clone(theQueues), "corrupt") {
		s := scene{name: "Move to " + to, call: asked(func(q *queuefs.Queue) api.Errno { return q.Move("Q1", to) })}
		if to != "hold" {
			s.changes = []change{renames("hold/Q1", to+"/Q1"), syncsDir(to)}
		}
		all = append(all, s)
	}
	for i := range all {
		if all[i].ready == nil {
			all[i].ready = twoMessages
		}
	}
	return all
}

// openSynced are the last changes of each Open.
func openSynced() []change {
	return []change{syncsDir("active"), syncsDir("bounce"), syncsDir("corrupt"), syncsDir("incoming"), syncsDir("tmp")}
}

// muddle lays everything that Open puts right on a disk: in what it finds, and by these changes.
func muddle(t *testing.T, d *simfs.Disk) (api.QueueFound, []change) {
	b := bytesOf(t, letter(1))
	for _, name := range []string{"next.new", "left", "Q2"} {
		lay(t, d, "tmp/"+name, "x")
	}
	lay(t, d, "tmp/next", "65;")
	for _, path := range []string{"active/Q10", "active/Q2", "active/odd", "deferred/Q3", "hold/Q4", "incoming/Q5", "maildrop/Q6", "hold/Q0", "corrupt/Q700"} {
		lay(t, d, path, b)
	}
	for _, path := range []string{"active/Q21", "deferred/Q22", "hold/Q23", "incoming/Q24", "maildrop/Q25"} {
		lay(t, d, path, b[:40])
	}
	lay(t, d, "bounce/Q2", "1:a,2:b")
	lay(t, d, "bounce/Q3", "1:a,")
	lay(t, d, "bounce/Q4", "x")
	lay(t, d, "bounce/Q22", "1:a,")
	lay(t, d, "bounce/Q9", "1:a,2:b")
	lay(t, d, "bounce/odd", "")
	torn := func(id, left string) []change {
		return []change{creates("tmp/" + id), appends("tmp/"+id, left), syncs("tmp/" + id), renames("tmp/"+id, "bounce/"+id)}
	}
	return api.QueueFound{Dropped: 6, Corrupt: 7, Back: 2, Messages: 6}, slices.Concat(
		[]change{unlinks("tmp/Q2"), unlinks("tmp/left"), unlinks("tmp/next.new")},
		[]change{renames("active/Q10", "incoming/Q10"), renames("active/Q2", "incoming/Q2"), renames("active/Q21", "corrupt/Q21"), renames("active/odd", "corrupt/odd")},
		[]change{renames("deferred/Q22", "corrupt/Q22"), renames("hold/Q0", "corrupt/Q0"), renames("hold/Q23", "corrupt/Q23")},
		[]change{renames("incoming/Q24", "corrupt/Q24"), renames("maildrop/Q25", "corrupt/Q25")},
		torn("Q2", "1:a,"),
		[]change{unlinks("bounce/Q22")},
		torn("Q4", ""),
		[]change{unlinks("bounce/Q9"), unlinks("bounce/odd")},
		openSynced(),
	)
}

func openScenes(t *testing.T) []scene {
	found, changes := muddle(t, disk(t))
	return []scene{
		{name: "Open of nothing", ready: func(*testing.T, *simfs.Disk) *queuefs.Queue { return nil }, call: opening, changes: openSynced()},
		{name: "Open again", ready: twoMessages, call: opening, changes: slices.Concat([]change{renames("active/Q2", "incoming/Q2")}, openSynced())},
		{name: "Open of a muddle", ready: func(t *testing.T, d *simfs.Disk) *queuefs.Queue { muddle(t, d); return nil }, call: func(d *simfs.Disk, _ *queuefs.Queue) api.Errno {
			q, f, e := queuefs.Open(d)
			if e == api.OK && (q == nil || f != found) || e != api.OK && (q != nil || f != (api.QueueFound{})) {
				return -1
			}
			return e
		}, changes: changes},
		{name: "Open behind a great id", ready: func(t *testing.T, d *simfs.Disk) *queuefs.Queue { lay(t, d, "corrupt/Q900", ""); return nil }, call: opening, changes: openSynced()},
		{name: "Open of a tmp/next that is none", ready: func(t *testing.T, d *simfs.Disk) *queuefs.Queue {
			lay(t, d, "tmp/next", "0;")
			lay(t, d, "tmp/left", "")
			lay(t, d, "active/Q1", "")
			return nil
		}, call: opening, changes: []change{unlinks("tmp/left")}, then: api.ErrQueueForm},
	}
}

// does the scene's changes on another disk, up to the first that is refused.
func (s scene) does(d *simfs.Disk) api.Errno {
	for i, do := range s.changes {
		e := do(d)
		if e == api.OK {
			continue
		}
		if s.undo != nil && s.undo(i+1) != nil {
			s.undo(i + 1)(d)
		}
		return e
	}
	return s.then
}

// TestEachChange refuses every change of every call in turn, by each error, and by the power's going (P4.2 to P4.6): the disk is left as the chapter's changes leave another one.
func TestEachChange(t *testing.T) {
	for _, s := range slices.Concat(putScenes(t), otherScenes(t), openScenes(t)) {
		for n := 0; n <= len(s.changes)+1; n++ {
			for _, refuse := range []func(d *simfs.Disk) api.Errno{
				func(d *simfs.Disk) api.Errno { return d.Fail(n, api.ErrFsIo) },
				func(d *simfs.Disk) api.Errno { return d.Fail(n, api.ErrFsFull) },
				func(d *simfs.Disk) api.Errno { return d.Arm(n) },
			} {
				d := disk(t)
				q := s.ready(t, d)
				other := d.Copy()
				fine(t, refuse(d), refuse(other))
				want := s.does(other)
				if e := s.call(d, q); e != want {
					t.Errorf("%s, change %d refused: %v, not %v", s.name, n, e, want)
				}
				if got, want := state(d), state(other); got != want {
					t.Fatalf("%s, change %d refused: there is\n%s\nnot\n%s", s.name, n, got, want)
				}
			}
		}
	}
}

// TestRefusedOnceIsMended: what a refused change left is put right by Open, and by asking again.
func TestRefusedOnceIsMended(t *testing.T) {
	whole := disk(t)
	_, changes := muddle(t, whole)
	if _, _, e := queuefs.Open(whole); e != api.OK {
		t.Fatal(e)
	}
	for n := 1; n <= len(changes); n++ {
		for _, e := range refusals {
			d := disk(t)
			muddle(t, d)
			fine(t, d.Fail(n, e))
			openError(t, fmt.Sprint("change ", n), d, e)
			q, _, e := queuefs.Open(d)
			if e != api.OK || !slices.Equal(contents(d), contents(whole)) {
				t.Fatalf("change %d: Open again: %v %s, not %s", n, e, short(contents(d)), short(contents(whole)))
			}
			lasts(t, d)
			put(t, q, "hold", letter(1), "Q701")
		}
	}
}

// TestMuddle: what Open makes of all that is to be put right.
func TestMuddle(t *testing.T) {
	d := disk(t)
	found, changes := muddle(t, d)
	count := d.Count()
	q := opened(t, d, found)
	if d.Count() != count+len(changes) {
		t.Error("so many changes:", d.Count()-count)
	}
	lasts(t, d)
	lists(t, q, "active")
	lists(t, q, "incoming", "Q10", "Q2", "Q5")
	lists(t, q, "deferred", "Q3")
	lists(t, q, "hold", "Q4")
	lists(t, q, "maildrop", "Q6")
	lists(t, q, "corrupt", "Q0", "Q21", "Q22", "Q23", "Q24", "Q25", "Q700", "odd")
	logged(t, q, "Q2", "a")
	logged(t, q, "Q3", "a")
	logged(t, q, "Q4")
	opened(t, d, api.QueueFound{Messages: 6})
	put(t, q, "hold", letter(9), "Q701")
}
