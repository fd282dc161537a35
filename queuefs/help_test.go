package queuefs_test

import (
	"fmt"
	"slices"
	"strings"
	"testing"

	"waybill/api"
	"waybill/codec"
	"waybill/queuefs"
	"waybill/record"
	"waybill/simfs"
)

const maxNumber = 1 << 53

// theQueues are those of the chapter, rising.
var theQueues = []string{"active", "deferred", "hold", "incoming", "maildrop"}

var refusals = []api.Errno{api.ErrFsIo, api.ErrFsFull}

func disk(t *testing.T) *simfs.Disk {
	t.Helper()
	return diskOf(t, 1<<20, queuefs.Dirs()...)
}

func diskOf(t *testing.T, quota int, dirs ...string) *simfs.Disk {
	t.Helper()
	d, e := simfs.New(quota, dirs)
	if e != api.OK {
		t.Fatal("simfs.New:", e)
	}
	return d
}

func opened(t *testing.T, d *simfs.Disk, found api.QueueFound) *queuefs.Queue {
	t.Helper()
	q, f, e := queuefs.Open(d)
	if e != api.OK || q == nil || f != found {
		t.Fatalf("Open: %v %+v %v, not %+v", q != nil, f, e, found)
	}
	return q
}

// fresh is an empty disk that is open.
func fresh(t *testing.T) (*simfs.Disk, *queuefs.Queue) {
	t.Helper()
	d := disk(t)
	return d, opened(t, d, api.QueueFound{})
}

func openError(t *testing.T, what string, d *simfs.Disk, want api.Errno) {
	t.Helper()
	q, f, e := queuefs.Open(d)
	if q != nil || f != (api.QueueFound{}) || e != want {
		t.Errorf("%s: Open: %v %+v %v, not %v", what, q != nil, f, e, want)
	}
}

// letter is a message that no other number has.
func letter(n int) api.Message {
	return api.Message{
		Time:  n,
		From:  "from@x",
		Rcpts: []api.Rcpt{{To: "ann@y", Mark: 'P'}, {To: "bob@y", Mark: 'P'}, {To: "c d@y", Mark: 'X'}},
		Data:  []byte(fmt.Sprintf("number %d\r\n", n)),
	}
}

func bytesOf(t *testing.T, m api.Message) string {
	t.Helper()
	b, e := record.Encode(m)
	if e != api.OK {
		t.Fatal("record.Encode:", e)
	}
	return string(b)
}

func textsOf(t *testing.T, l ...string) string {
	t.Helper()
	all := ""
	for _, s := range l {
		b, e := codec.Text(s)
		if e != api.OK {
			t.Fatal("codec.Text:", e)
		}
		all += string(b)
	}
	return all
}

func sameMessage(a, b api.Message) bool {
	return a.Time == b.Time && a.From == b.From && slices.Equal(a.Rcpts, b.Rcpts) && string(a.Data) == string(b.Data)
}

func put(t *testing.T, q *queuefs.Queue, dir string, m api.Message, want string) {
	t.Helper()
	if id, e := q.Put(dir, m); id != want || e != api.OK {
		t.Fatalf("Put(%s): %q %v, not %q", dir, id, e, want)
	}
}

func putError(t *testing.T, q *queuefs.Queue, dir string, m api.Message, want api.Errno) {
	t.Helper()
	if id, e := q.Put(dir, m); id != "" || e != want {
		t.Errorf("Put(%s): %q %v, not %v", dir, id, e, want)
	}
}

func loads(t *testing.T, q *queuefs.Queue, id string, want api.Message) {
	t.Helper()
	if m, e := q.Load(id); !sameMessage(m, want) || e != api.OK {
		t.Errorf("Load(%s): %v %v, not %v", id, m, e, want)
	}
}

func loadError(t *testing.T, q *queuefs.Queue, id string, want api.Errno) {
	t.Helper()
	if m, e := q.Load(id); !sameMessage(m, api.Message{}) || e != want {
		t.Errorf("Load(%q): %v %v, not %v", id, m, e, want)
	}
}

func lies(t *testing.T, q *queuefs.Queue, id, want string) {
	t.Helper()
	if dir, is := q.Where(id); dir != want || is != (want != "") {
		t.Errorf("Where(%q): %q %v, not %q", id, dir, is, want)
	}
}

func lists(t *testing.T, q *queuefs.Queue, dir string, want ...string) {
	t.Helper()
	if l, e := q.List(dir); !slices.Equal(l, want) || e != api.OK {
		t.Errorf("List(%s): %q %v, not %q", dir, l, e, want)
	}
}

func listError(t *testing.T, q *queuefs.Queue, dir string, want api.Errno) {
	t.Helper()
	if l, e := q.List(dir); len(l) != 0 || e != want {
		t.Errorf("List(%q): %q %v, not %v", dir, l, e, want)
	}
}

func logged(t *testing.T, q *queuefs.Queue, id string, want ...string) {
	t.Helper()
	if l, e := q.Logged(id); !slices.Equal(l, want) || e != api.OK {
		t.Errorf("Logged(%q): %s %v, not %s", id, short(l), e, short(want))
	}
}

func loggedError(t *testing.T, q *queuefs.Queue, id string, want api.Errno) {
	t.Helper()
	if l, e := q.Logged(id); len(l) != 0 || e != want {
		t.Errorf("Logged(%q): %s %v, not %v", id, short(l), e, want)
	}
}

func answers(t *testing.T, what string, got, want api.Errno) {
	t.Helper()
	if got != want {
		t.Errorf("%s: %v, not %v", what, got, want)
	}
}

func fine(t *testing.T, l ...api.Errno) {
	t.Helper()
	for i, e := range l {
		if e != api.OK {
			t.Fatalf("call %d: %v", i, e)
		}
	}
}

// lay lets a file last on a disk.
func lay(t *testing.T, d *simfs.Disk, path, b string) {
	t.Helper()
	dir, _, _ := strings.Cut(path, "/")
	fine(t, d.Create(path), d.Append(path, []byte(b)), d.Sync(path), d.SyncDir(dir))
}

// contents are a disk's files: each its path, a blank, its bytes.
func contents(d *simfs.Disk) []string {
	l := []string{}
	for _, dir := range d.Dirs() {
		names, _ := d.List(dir)
		for _, name := range names {
			b, _ := d.Read(dir + "/" + name)
			l = append(l, dir+"/"+name+" "+string(b))
		}
	}
	return l
}

// holds tells whether just these files are there: paths and bytes by turns.
func holds(t *testing.T, d *simfs.Disk, files ...string) {
	t.Helper()
	want := []string{}
	for i := 0; i < len(files); i += 2 {
		want = append(want, files[i]+" "+files[i+1])
	}
	slices.Sort(want)
	got := contents(d)
	slices.Sort(got)
	if !slices.Equal(got, want) {
		t.Errorf("there are %s, not %s", short(got), short(want))
	}
}

// lasts tells whether nothing of a disk waits, but for the bytes of files that are gone.
func lasts(t *testing.T, d *simfs.Disk) {
	t.Helper()
	changes, writes := d.Wait()
	writes = slices.DeleteFunc(writes, func(w api.FsWrites) bool { return w.Path == "" })
	if len(changes)+len(writes) > 0 {
		t.Errorf("there wait %v %v", changes, writes)
	}
}

// state is all that can be asked of a disk.
func state(d *simfs.Disk) string {
	c, w := d.Wait()
	return fmt.Sprintf("%q\nwaiting %v %v, %d changes, %d bytes, off %v", contents(d), c, w, d.Count(), d.Used(), d.Off())
}

// short keeps what is told of great texts readable.
func short(l []string) string {
	s := fmt.Sprintf("%q", l)
	if len(s) > 2000 {
		return s[:1000] + " .. " + s[len(s)-1000:]
	}
	return s
}

// powerOff lets the power go ahead of a change that is not one of the queue's.
func powerOff(t *testing.T, d *simfs.Disk) {
	t.Helper()
	fine(t, d.Arm(1))
	answers(t, "the armed change", d.SyncDir("tmp"), api.ErrFsOff)
}

func nothing() api.FsKeep { return api.FsKeep{} }

// A change is one of a disk, as the chapters name it.
type change func(d *simfs.Disk) api.Errno

func creates(path string) change { return func(d *simfs.Disk) api.Errno { return d.Create(path) } }
func appends(path, b string) change {
	return func(d *simfs.Disk) api.Errno { return d.Append(path, []byte(b)) }
}
func writesAt(path string, at int, b string) change {
	return func(d *simfs.Disk) api.Errno { return d.WriteAt(path, at, []byte(b)) }
}
func syncs(path string) change { return func(d *simfs.Disk) api.Errno { return d.Sync(path) } }
func renames(from, to string) change {
	return func(d *simfs.Disk) api.Errno { return d.Rename(from, to) }
}
func unlinks(path string) change { return func(d *simfs.Disk) api.Errno { return d.Unlink(path) } }
func syncsDir(dir string) change { return func(d *simfs.Disk) api.Errno { return d.SyncDir(dir) } }

// goesFurther are the changes by which ids may go up to a number.
func goesFurther(far string) []change {
	return []change{creates("tmp/next.new"), appends("tmp/next.new", far+";"), syncs("tmp/next.new"), renames("tmp/next.new", "tmp/next"), syncsDir("tmp")}
}

// queued are the changes by which a message comes into a queue.
func queued(dir, id, b string) []change {
	return []change{creates("tmp/" + id), appends("tmp/"+id, b), syncs("tmp/" + id), renames("tmp/"+id, dir+"/"+id), syncsDir(dir)}
}
