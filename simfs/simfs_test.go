package simfs_test

import (
	"math"
	"slices"
	"strconv"
	"strings"
	"testing"

	"waybill/api"
	"waybill/simfs"
)

// disk is one of 100 bytes with the directories a and b.
func disk(t *testing.T) *simfs.Disk {
	t.Helper()
	return diskOf(t, 100, "b", "a")
}

func diskOf(t *testing.T, quota int, dirs ...string) *simfs.Disk {
	t.Helper()
	d, e := simfs.New(quota, dirs)
	if d == nil || e != api.OK {
		t.Fatalf("New(%d, %q): %v %v", quota, dirs, d, e)
	}
	return d
}

func fine(t *testing.T, answers ...api.Errno) {
	t.Helper()
	for i, e := range answers {
		if e != api.OK {
			t.Fatalf("call %d: %v", i, e)
		}
	}
}

func want(t *testing.T, what string, got, want api.Errno) {
	t.Helper()
	if got != want {
		t.Errorf("%s: %v, not %v", what, got, want)
	}
}

// holds tells whether just these files are there: paths and bytes by turns.
func holds(t *testing.T, d *simfs.Disk, files ...string) {
	t.Helper()
	if got := contents(d); !slices.Equal(got, files) {
		t.Errorf("there are %q, not %q", got, files)
	}
}

func contents(d *simfs.Disk) []string {
	l := []string{}
	for _, dir := range d.Dirs() {
		names, _ := d.List(dir)
		for _, name := range names {
			b, _ := d.Read(dir + "/" + name)
			l = append(l, dir+"/"+name, string(b))
		}
	}
	return l
}

func waits(t *testing.T, d *simfs.Disk, changes []api.FsChange, writes []api.FsWrites) {
	t.Helper()
	c, w := d.Wait()
	if !slices.Equal(c, changes) || !slices.Equal(w, writes) {
		t.Errorf("waiting: %v %v, not %v %v", c, w, changes, writes)
	}
}

// synced is a file that lasts.
func synced(t *testing.T, d *simfs.Disk, path, bytes string) {
	t.Helper()
	dir, _, _ := strings.Cut(path, "/")
	fine(t, d.Create(path), d.Append(path, []byte(bytes)), d.Sync(path), d.SyncDir(dir))
}

func creates(path string) api.FsChange { return api.FsChange{Kind: api.FsCreate, To: path} }
func unlinks(path string) api.FsChange { return api.FsChange{Kind: api.FsUnlink, From: path} }
func renames(from, to string) api.FsChange {
	return api.FsChange{Kind: api.FsRename, From: from, To: to}
}

func TestP1_1New(t *testing.T) {
	long := strings.Repeat("n", api.MaxFsName)
	var many []string
	for i := range api.MaxFsDirs {
		many = append(many, "d"+strconv.Itoa(i))
	}
	for _, x := range []struct {
		quota int
		dirs  []string
		e     api.Errno
	}{
		{1, []string{"a"}, api.OK},
		{api.MaxFsBytes, []string{"azAZ09-_."}, api.OK},
		{100, []string{long}, api.OK},
		{100, []string{".", ".."}, api.OK},
		{100, []string{"a", "A"}, api.OK},
		{100, many, api.OK},
		{0, []string{"a"}, api.ErrArg},
		{-1, []string{"a"}, api.ErrArg},
		{math.MinInt, []string{"a"}, api.ErrArg},
		{api.MaxFsBytes + 1, []string{"a"}, api.ErrArg},
		{math.MaxInt, []string{"a"}, api.ErrArg},
		{100, nil, api.ErrArg},
		{100, append(slices.Clone(many), "x"), api.ErrArg},
		{100, []string{long + "n"}, api.ErrArg},
		{100, []string{"a", ""}, api.ErrArg},
		{100, []string{"a", "b", "a"}, api.ErrArg},
		{100, []string{"a/b"}, api.ErrArg},
		{100, []string{"a b"}, api.ErrArg},
		{100, []string{"a\x00"}, api.ErrArg},
		{100, []string{"\xc3\xa4"}, api.ErrArg},
	} {
		d, e := simfs.New(x.quota, x.dirs)
		if e != x.e || (d != nil) != (x.e == api.OK) {
			t.Errorf("New(%d, %q): %v %v", x.quota, x.dirs, d, e)
		}
		if d != nil && (len(contents(d)) != 0 || d.Used() != 0 || d.Count() != 0 || d.Off()) {
			t.Errorf("New(%d, %q) is not empty", x.quota, x.dirs)
		}
	}
}

func TestP1_1NewNames(t *testing.T) {
	for c := range 256 {
		s := string([]byte{byte(c)})
		right := api.ErrArg
		if strings.Contains("abcdefghijklmnopqrstuvwxyzABCDEFGHIJKLMNOPQRSTUVWXYZ0123456789-_.", s) {
			right = api.OK
		}
		if _, e := simfs.New(1, []string{s}); e != right {
			t.Errorf("New(1, %q): %v", s, e)
		}
	}
}

func TestP1_1NewKeepsNoArgument(t *testing.T) {
	dirs := []string{"b", "a"}
	d := diskOf(t, 100, dirs...)
	if !slices.Equal(dirs, []string{"b", "a"}) {
		t.Error("the argument was changed:", dirs)
	}
	dirs[0] = "c"
	want(t, "Create", d.Create("b/x"), api.OK)
}

func TestP1_2Off(t *testing.T) {
	d := disk(t)
	fine(t, d.Create("a/x"), d.Append("a/x", []byte("hi")), d.Arm(1))
	want(t, "the armed change", d.Create("a/y"), api.ErrFsOff)
	for what, e := range map[string]api.Errno{
		"Create":          d.Create("a/y"),
		"Create, no path": d.Create(""),
		"Create, there":   d.Create("a/x"),
		"Append":          d.Append("a/x", nil),
		"Append, none":    d.Append("a/q", nil),
		"Append, full":    d.Append("a/x", make([]byte, 101)),
		"WriteAt":         d.WriteAt("a/x", 0, nil),
		"WriteAt, none":   d.WriteAt("a/q", 0, nil),
		"WriteAt, arg":    d.WriteAt("a/x", -1, nil),
		"Sync":            d.Sync("a/x"),
		"Sync, none":      d.Sync("a/q"),
		"Rename":          d.Rename("a/x", "b/x"),
		"Rename, none":    d.Rename("a/q", "b/x"),
		"Rename, name":    d.Rename("a/x", "c/x"),
		"Unlink":          d.Unlink("a/x"),
		"Unlink, none":    d.Unlink("a/q"),
		"SyncDir":         d.SyncDir("a"),
		"SyncDir, none":   d.SyncDir("c"),
		"Fail":            d.Fail(1, api.ErrFsIo),
		"Fail, arguments": d.Fail(-1, api.OK),
		"Arm":             d.Arm(1),
		"Arm, arguments":  d.Arm(-1),
		"Read":            readError(d, "a/x"),
		"Read, none":      readError(d, "a/q"),
		"List":            listError(d, "a"),
		"List, no such":   listError(d, "c"),
	} {
		want(t, what, e, api.ErrFsOff)
	}
	if n, is := d.Len("a/x"); n != 0 || is || d.Used() != 0 {
		t.Error("Len, Used:", n, is, d.Used())
	}
	if d.Count() != 2 || !slices.Equal(d.Dirs(), []string{"a", "b"}) || !d.Off() {
		t.Error("Count, Dirs, Off:", d.Count(), d.Dirs(), d.Off())
	}
	waits(t, d, []api.FsChange{creates("a/x")}, []api.FsWrites{{Path: "a/x", Bytes: 2}})
	d.Crash(api.FsKeep{Changes: []bool{true}, Writes: []int{2}})
	holds(t, d, "a/x", "hi")
	if d.Off() || d.Used() != 2 {
		t.Error("behind the crash:", d.Off(), d.Used())
	}
}

func readError(d *simfs.Disk, path string) api.Errno {
	b, e := d.Read(path)
	if e != api.OK && len(b) != 0 {
		return -1
	}
	return e
}

func listError(d *simfs.Disk, dir string) api.Errno {
	l, e := d.List(dir)
	if e != api.OK && len(l) != 0 {
		return -1
	}
	return e
}

func TestP1_3Paths(t *testing.T) {
	d := disk(t)
	long := strings.Repeat("n", api.MaxFsName)
	fine(t, d.Create("a/"+long), d.Create("a/azAZ09-_."), d.Create("a/.."), d.Create("b/.."))
	for _, path := range []string{"", "a", "/", "a/", "/x", "c/x", "a/" + long + "n", "a/x/y", "a//x", "A/x", "a/x ", "a/\xff", "a/\x00", "ab/x", "a\\x", "a/b/"} {
		want(t, "Create "+path, d.Create(path), api.ErrFsName)
		want(t, "Rename to "+path, d.Rename("a/..", path), api.ErrFsName)
		want(t, "Rename from "+path, d.Rename(path, "a/q"), api.ErrFsNone)
		want(t, "Append "+path, d.Append(path, nil), api.ErrFsNone)
		want(t, "Read "+path, readError(d, path), api.ErrFsNone)
	}
	fine(t, d.Rename("a/..", "b/"+long))
}

func TestP1_3Refused(t *testing.T) {
	d := disk(t)
	fine(t, d.Create("a/x"), d.Append("a/x", []byte("hi")))
	for _, x := range []struct {
		what string
		got  api.Errno
		want api.Errno
	}{
		{"Create, there", d.Create("a/x"), api.ErrFsThere},
		{"Append, none", d.Append("a/y", []byte("z")), api.ErrFsNone},
		{"Append, none ahead of full", d.Append("a/y", make([]byte, 101)), api.ErrFsNone},
		{"Append, full", d.Append("a/x", make([]byte, 99)), api.ErrFsFull},
		{"WriteAt, none", d.WriteAt("a/y", 0, nil), api.ErrFsNone},
		{"WriteAt, none ahead of arg", d.WriteAt("a/y", -1, nil), api.ErrFsNone},
		{"WriteAt below 0", d.WriteAt("a/x", -1, []byte("z")), api.ErrArg},
		{"WriteAt below 0, nothing", d.WriteAt("a/x", -1, nil), api.ErrArg},
		{"WriteAt far below 0", d.WriteAt("a/x", math.MinInt, []byte("z")), api.ErrArg},
		{"WriteAt at the end", d.WriteAt("a/x", 2, []byte("z")), api.ErrArg},
		{"WriteAt over the end", d.WriteAt("a/x", 1, []byte("yz")), api.ErrArg},
		{"WriteAt longer than all", d.WriteAt("a/x", 0, []byte("xyz")), api.ErrArg},
		{"WriteAt behind the end, nothing", d.WriteAt("a/x", 3, nil), api.ErrArg},
		{"WriteAt far behind", d.WriteAt("a/x", math.MaxInt, []byte("z")), api.ErrArg},
		{"Sync, none", d.Sync("a/y"), api.ErrFsNone},
		{"Sync of a directory", d.Sync("a"), api.ErrFsNone},
		{"Unlink, none", d.Unlink("a/y"), api.ErrFsNone},
		{"Rename, none", d.Rename("a/y", "a/z"), api.ErrFsNone},
		{"Rename, none ahead of name", d.Rename("a/y", "c/z"), api.ErrFsNone},
		{"Rename, none onto itself", d.Rename("a/y", "a/y"), api.ErrFsNone},
		{"Rename, name", d.Rename("a/x", "c/x"), api.ErrFsName},
		{"SyncDir, none", d.SyncDir("c"), api.ErrFsNone},
		{"SyncDir of nothing", d.SyncDir(""), api.ErrFsNone},
		{"SyncDir of a file", d.SyncDir("a/x"), api.ErrFsNone},
	} {
		want(t, x.what, x.got, x.want)
	}
	fine(t, d.WriteAt("a/x", 2, nil), d.WriteAt("a/x", 0, nil), d.WriteAt("a/x", 0, []byte("ho")))
	holds(t, d, "a/x", "ho")
}

func TestP1_3Quota(t *testing.T) {
	d := diskOf(t, 5, "a", "b")
	fine(t, d.Create("a/x"), d.Create("b/y"), d.Append("a/x", []byte("123")), d.Append("b/y", []byte("45")))
	want(t, "one more", d.Append("b/y", []byte("6")), api.ErrFsFull)
	fine(t, d.Append("b/y", nil), d.WriteAt("b/y", 0, []byte("67")))
	holds(t, d, "a/x", "123", "b/y", "67")
	fine(t, d.Unlink("a/x"))
	want(t, "four more", d.Append("b/y", []byte("8901")), api.ErrFsFull)
	fine(t, d.Append("b/y", []byte("890")), d.Create("a/x"), d.Rename("a/x", "b/y"), d.Append("b/y", []byte("12345")))
	if d.Used() != 5 {
		t.Error("Used:", d.Used())
	}
}

func TestP1_3QuotaBehindCrash(t *testing.T) {
	d := diskOf(t, 5, "a", "b")
	synced(t, d, "a/x", "12345")
	fine(t, d.Unlink("a/x"), d.Create("b/y"), d.Append("b/y", []byte("678")), d.Sync("b/y"), d.SyncDir("b"))
	d.Crash(api.FsKeep{})
	holds(t, d, "a/x", "12345", "b/y", "678")
	if d.Used() != 8 {
		t.Error("Used:", d.Used())
	}
	want(t, "Append of nothing", d.Append("b/y", nil), api.ErrFsFull)
	fine(t, d.Unlink("a/x"), d.Append("b/y", []byte("90")))
}

func TestP1_3Many(t *testing.T) {
	d := disk(t)
	for i := range api.MaxFsFiles {
		fine(t, d.Create([]string{"a", "b"}[i%2]+"/"+strconv.Itoa(i)))
	}
	want(t, "there", d.Create("a/0"), api.ErrFsThere)
	want(t, "name", d.Create("c/0"), api.ErrFsName)
	want(t, "many", d.Create("a/x"), api.ErrFsMany)
	fine(t, d.SyncDir("a"), d.SyncDir("b"), d.Rename("a/0", "a/x"), d.Unlink("b/1"), d.Create("b/x"))
	want(t, "many again", d.Create("b/y"), api.ErrFsMany)
	d.Crash(api.FsKeep{Changes: []bool{true, false, true}})
	want(t, "more than many", d.Create("b/y"), api.ErrFsMany)
	fine(t, d.Unlink("b/1"))
	want(t, "just many", d.Create("b/y"), api.ErrFsMany)
	fine(t, d.Rename("a/x", "b/x"), d.Create("b/y"))
}

func TestP1_4Done(t *testing.T) {
	d := disk(t)
	b := []byte("hello")
	fine(t, d.Create("a/x"))
	holds(t, d, "a/x", "")
	fine(t, d.Append("a/x", b), d.Append("a/x", []byte(" you")), d.WriteAt("a/x", 1, []byte("u")), d.WriteAt("a/x", 6, []byte("all")))
	b[0] = 'j'
	holds(t, d, "a/x", "hullo all")
	fine(t, d.Create("b/y"), d.Append("b/y", []byte("other")), d.Rename("a/x", "b/z"))
	holds(t, d, "b/y", "other", "b/z", "hullo all")
	fine(t, d.Rename("b/z", "b/y"))
	holds(t, d, "b/y", "hullo all")
	fine(t, d.Append("b/y", []byte("!")), d.Unlink("b/y"))
	holds(t, d)
	fine(t, d.Create("b/y"))
	holds(t, d, "b/y", "")
}

func TestP1_4RenameOntoItself(t *testing.T) {
	d := disk(t)
	fine(t, d.Create("a/x"), d.SyncDir("a"), d.Append("a/x", []byte("hi")), d.Rename("a/x", "a/x"))
	holds(t, d, "a/x", "hi")
	waits(t, d, nil, []api.FsWrites{{Path: "a/x", Bytes: 2}})
	if d.Count() != 4 || d.Used() != 2 {
		t.Error("Count, Used:", d.Count(), d.Used())
	}
	fine(t, d.Fail(1, api.ErrFsIo))
	want(t, "Fail", d.Rename("a/x", "a/x"), api.ErrFsIo)
	fine(t, d.Arm(1))
	want(t, "Arm", d.Rename("a/x", "a/x"), api.ErrFsOff)
}

func TestP1_4Sync(t *testing.T) {
	d := disk(t)
	fine(t, d.Create("a/x"), d.Create("a/y"), d.SyncDir("a"))
	fine(t, d.Append("a/x", []byte("one")), d.WriteAt("a/x", 0, []byte("O")), d.Append("a/y", []byte("two")), d.Sync("a/x"))
	waits(t, d, nil, []api.FsWrites{{Path: "a/y", Bytes: 3}})
	fine(t, d.Append("a/x", []byte("..")))
	waits(t, d, nil, []api.FsWrites{{Path: "a/x", Bytes: 2}, {Path: "a/y", Bytes: 3}})
	d.Crash(api.FsKeep{})
	holds(t, d, "a/x", "One", "a/y", "")
}

func TestP1_4SyncDir(t *testing.T) {
	d := diskOf(t, 100, "a", "b", "c", "ab")
	fine(t, d.Create("a/1"), d.Create("ab/1"), d.Create("b/1"), d.Rename("b/1", "c/1"), d.Create("b/2"), d.Rename("b/2", "a/2"), d.Unlink("a/1"))
	fine(t, d.SyncDir("c")) // with the Create of b/1, as the Rename leans on it
	waits(t, d, []api.FsChange{creates("a/1"), creates("ab/1"), creates("b/2"), renames("b/2", "a/2"), unlinks("a/1")}, nil)
	fine(t, d.SyncDir("a"))
	waits(t, d, []api.FsChange{creates("ab/1")}, nil)
	d.Crash(api.FsKeep{})
	holds(t, d, "a/2", "", "c/1", "")
}

// TestP1_4SyncDirChain: what leans on what leans on .. is brought to last from afar, and nothing that came later.
func TestP1_4SyncDirChain(t *testing.T) {
	d := diskOf(t, 100, "a", "b", "c")
	fine(t, d.Create("a/1"), d.Rename("a/1", "a/2"), d.Rename("a/2", "b/3"), d.Rename("b/3", "c/4"), d.Create("a/2"), d.Create("b/3"), d.Create("b/5"))
	fine(t, d.SyncDir("c"))
	waits(t, d, []api.FsChange{creates("a/2"), creates("b/3"), creates("b/5")}, nil)
	d.Crash(api.FsKeep{})
	holds(t, d, "c/4", "")
}

func TestP1_5Reads(t *testing.T) {
	d := disk(t)
	fine(t, d.Create("b/y"), d.Create("a/b"), d.Create("a/B"), d.Create("a/a"), d.Create("a/.x"), d.Append("a/b", []byte("hi")), d.Append("b/y", []byte("you")))
	if l, e := d.List("a"); !slices.Equal(l, []string{".x", "B", "a", "b"}) || e != api.OK {
		t.Error("List(a):", l, e)
	}
	want(t, "List(c)", listError(d, "c"), api.ErrFsNone)
	want(t, "List()", listError(d, ""), api.ErrFsNone)
	want(t, "Read", readError(d, "a/x"), api.ErrFsNone)
	want(t, "Read", readError(d, "a"), api.ErrFsNone)
	if n, is := d.Len("a/b"); n != 2 || !is {
		t.Error("Len(a/b):", n, is)
	}
	if n, is := d.Len("a/a"); n != 0 || !is {
		t.Error("Len(a/a):", n, is)
	}
	if n, is := d.Len("a/x"); n != 0 || is {
		t.Error("Len(a/x):", n, is)
	}
	if d.Used() != 5 || d.Count() != 7 {
		t.Error("Used, Count:", d.Used(), d.Count())
	}
	fine(t, d.Sync("a/b"), d.SyncDir("a"), d.Unlink("b/y"), d.WriteAt("a/b", 0, nil), d.Append("a/b", nil))
	if d.Used() != 2 || d.Count() != 12 {
		t.Error("Used, Count:", d.Used(), d.Count())
	}
	d.Crash(api.FsKeep{})
	if d.Used() != 2 || d.Count() != 12 {
		t.Error("behind a crash Used, Count:", d.Used(), d.Count())
	}
}

func TestP1_5AnswersAreTheCallersOwn(t *testing.T) {
	d := disk(t)
	fine(t, d.Create("a/x"), d.Append("a/x", []byte("hi")))
	b, _ := d.Read("a/x")
	b[0] = 'H'
	_ = append(b, "there"...)
	l, _ := d.List("a")
	l[0] = "y"
	d.Dirs()[0] = "c"
	c, w := d.Wait()
	c[0].To, w[0].Bytes = "", 0
	fine(t, d.Append("a/x", []byte("!")))
	holds(t, d, "a/x", "hi!")
	waits(t, d, []api.FsChange{creates("a/x")}, []api.FsWrites{{Path: "a/x", Bytes: 3}})
}

func TestP1_6Arguments(t *testing.T) {
	d := disk(t)
	fine(t, d.Create("a/x"))
	for _, x := range []struct {
		n    int
		e    api.Errno
		want api.Errno
	}{
		{0, api.ErrFsIo, api.OK}, {0, api.ErrFsFull, api.OK}, {math.MaxInt, api.ErrFsIo, api.OK},
		{-1, api.ErrFsIo, api.ErrArg}, {math.MinInt, api.ErrFsFull, api.ErrArg},
		{1, api.OK, api.ErrArg}, {0, api.OK, api.ErrArg}, {1, api.ErrFsOff, api.ErrArg}, {1, api.ErrFsMany, api.ErrArg}, {1, -1, api.ErrArg}, {1, 17, api.ErrArg},
	} {
		want(t, "Fail "+strconv.Itoa(x.n), d.Fail(x.n, x.e), x.want)
	}
	want(t, "Arm", d.Arm(math.MaxInt), api.OK)
	want(t, "Arm", d.Arm(-1), api.ErrArg)
	want(t, "Arm", d.Arm(math.MinInt), api.ErrArg)
	want(t, "Arm", d.Arm(0), api.OK)
	fine(t, d.Fail(1, api.ErrFsIo))
	want(t, "a refused Fail", d.Fail(-1, api.ErrFsFull), api.ErrArg)
	want(t, "a refused Fail", d.Fail(0, api.OK), api.ErrArg)
	want(t, "the Fail that stays", d.Sync("a/x"), api.ErrFsIo)
	fine(t, d.Arm(1))
	want(t, "a refused Arm", d.Arm(-1), api.ErrArg)
	want(t, "the Arm that stays", d.Sync("a/x"), api.ErrFsOff)
}

// changes are one call of each kind that is a change, on a disk that has a/x of two bytes.
func changes(d *simfs.Disk) map[string]func() api.Errno {
	return map[string]func() api.Errno{
		"Create":  func() api.Errno { return d.Create("a/y") },
		"Append":  func() api.Errno { return d.Append("a/x", []byte("z")) },
		"WriteAt": func() api.Errno { return d.WriteAt("a/x", 0, []byte("z")) },
		"Sync":    func() api.Errno { return d.Sync("a/x") },
		"Rename":  func() api.Errno { return d.Rename("a/x", "b/x") },
		"Unlink":  func() api.Errno { return d.Unlink("a/x") },
		"SyncDir": func() api.Errno { return d.SyncDir("a") },
	}
}

func TestP1_6EachChangeFails(t *testing.T) {
	for what := range changes(nil) {
		for _, e := range []api.Errno{api.ErrFsIo, api.ErrFsFull} {
			d := disk(t)
			fine(t, d.Create("a/x"), d.Append("a/x", []byte("hi")), d.Fail(1, e))
			c, w := d.Wait()
			want(t, what, changes(d)[what](), e)
			holds(t, d, "a/x", "hi")
			waits(t, d, c, w)
			if d.Count() != 2 {
				t.Error(what, "was counted")
			}
			want(t, what+" again", changes(d)[what](), api.OK)
			if d.Count() != 3 {
				t.Error(what, "was not counted")
			}
		}
	}
}

func TestP1_6EachChangeMeetsArm(t *testing.T) {
	for what := range changes(nil) {
		d := disk(t)
		fine(t, d.Create("a/x"), d.Append("a/x", []byte("hi")), d.Arm(1))
		c, w := d.Wait()
		want(t, what, changes(d)[what](), api.ErrFsOff)
		waits(t, d, c, w)
		if !d.Off() || d.Count() != 2 {
			t.Error(what, d.Off(), d.Count())
		}
		d.Crash(api.FsKeep{Changes: []bool{true}, Writes: []int{2}})
		holds(t, d, "a/x", "hi")
		want(t, what+" behind it", changes(d)[what](), api.OK)
	}
}

func TestP1_6TheNth(t *testing.T) {
	d := disk(t)
	fine(t, d.Create("a/x"), d.Fail(3, api.ErrFsFull), d.Append("a/x", []byte("1")))
	want(t, "no change", d.Create("a/x"), api.ErrFsThere)
	want(t, "no change", d.Append("a/x", make([]byte, 100)), api.ErrFsFull)
	fine(t, d.Append("a/x", []byte("2")))
	want(t, "the third", d.Append("a/x", []byte("3")), api.ErrFsFull)
	fine(t, d.Append("a/x", []byte("4")), d.Append("a/x", []byte("5")))
	holds(t, d, "a/x", "1245")
	fine(t, d.Arm(2), d.Append("a/x", []byte("6")))
	want(t, "no change", d.SyncDir("c"), api.ErrFsNone)
	want(t, "the second", d.Append("a/x", []byte("7")), api.ErrFsOff)
	want(t, "while it is off", d.SyncDir("c"), api.ErrFsOff)
}

func TestP1_6LaterTakesThePlace(t *testing.T) {
	d := disk(t)
	fine(t, d.Create("a/x"), d.Fail(1, api.ErrFsIo), d.Fail(2, api.ErrFsFull), d.Sync("a/x"))
	want(t, "the later Fail", d.Sync("a/x"), api.ErrFsFull)
	fine(t, d.Fail(1, api.ErrFsIo), d.Fail(0, api.ErrFsIo), d.Sync("a/x"))
	fine(t, d.Arm(1), d.Arm(2), d.Sync("a/x"), d.Arm(0), d.Sync("a/x"))
	fine(t, d.Arm(1), d.Arm(2), d.Sync("a/x"))
	want(t, "the later Arm", d.Sync("a/x"), api.ErrFsOff)
}

func TestP1_6Both(t *testing.T) {
	d := disk(t)
	fine(t, d.Create("a/x"), d.SyncDir("a"), d.Fail(2, api.ErrFsIo), d.Arm(2), d.Sync("a/x"))
	want(t, "both of the same change", d.Sync("a/x"), api.ErrFsOff)
	if !d.Off() || d.Count() != 3 {
		t.Error("Off, Count:", d.Off(), d.Count())
	}
	d.Crash(api.FsKeep{})
	fine(t, d.Sync("a/x"), d.Fail(1, api.ErrFsIo), d.Arm(2))
	want(t, "Fail first", d.Sync("a/x"), api.ErrFsIo)
	want(t, "Arm counts what was refused", d.Sync("a/x"), api.ErrFsOff)
}

func TestP1_6CrashEndsBoth(t *testing.T) {
	d := disk(t)
	fine(t, d.Create("a/x"), d.SyncDir("a"), d.Fail(1, api.ErrFsIo), d.Arm(2))
	d.Crash(api.FsKeep{})
	fine(t, d.Sync("a/x"), d.Sync("a/x"), d.Sync("a/x"))
}

func TestP1_7Wait(t *testing.T) {
	d := disk(t)
	waits(t, d, nil, nil)
	fine(t, d.Create("b/1"), d.Create("a/2"), d.Create("a/3"), d.Append("a/3", []byte("abc")), d.Append("a/2", []byte("ab")), d.Append("b/1", []byte("a")), d.WriteAt("a/2", 0, []byte("xy")))
	fine(t, d.Append("a/2", nil), d.Create("a/4"), d.Append("a/4", nil))
	fine(t, d.Rename("a/3", "b/3"), d.Unlink("b/1"), d.Rename("a/4", "a/2"))
	waits(t, d,
		[]api.FsChange{creates("b/1"), creates("a/2"), creates("a/3"), creates("a/4"), renames("a/3", "b/3"), unlinks("b/1"), renames("a/4", "a/2")},
		[]api.FsWrites{{Path: "", Bytes: 1}, {Path: "", Bytes: 4}, {Path: "b/3", Bytes: 3}})
	fine(t, d.SyncDir("b"), d.Sync("b/3"))
	waits(t, d, []api.FsChange{creates("a/2"), creates("a/4"), renames("a/4", "a/2")}, []api.FsWrites{{Path: "", Bytes: 1}, {Path: "", Bytes: 4}})
	fine(t, d.Arm(1))
	want(t, "the armed change", d.Sync("b/3"), api.ErrFsOff)
	waits(t, d, []api.FsChange{creates("a/2"), creates("a/4"), renames("a/4", "a/2")}, []api.FsWrites{{Path: "", Bytes: 1}, {Path: "", Bytes: 4}})
	d.Crash(api.FsKeep{})
	waits(t, d, nil, nil)
	holds(t, d, "b/3", "abc")
}

// TestP1_7MadeOrder: the order of files is that of their making, also behind a crash and a rename.
func TestP1_7MadeOrder(t *testing.T) {
	d := disk(t)
	synced(t, d, "a/z", "1")
	synced(t, d, "a/y", "2")
	d.Crash(api.FsKeep{})
	fine(t, d.Create("a/a"), d.Append("a/a", []byte("3")), d.Append("a/y", []byte("22")), d.Append("a/z", []byte("111")), d.Rename("a/z", "b/z"))
	waits(t, d, []api.FsChange{creates("a/a"), renames("a/z", "b/z")}, []api.FsWrites{{Path: "b/z", Bytes: 3}, {Path: "a/y", Bytes: 2}, {Path: "a/a", Bytes: 1}})
}

func TestP1_8Changes(t *testing.T) {
	for _, x := range []struct {
		keep []bool
		want []string
	}{
		{nil, []string{"a/0", "0"}},
		{[]bool{true}, []string{"a/0", "0", "a/1", ""}},
		{[]bool{true, true}, []string{"a/0", "0", "b/1", ""}},
		{[]bool{false, true, true}, []string{}}, // the Rename leans on the Create, the Unlink on neither
		{[]bool{true, false, true, true}, []string{"a/1", ""}},
		{[]bool{true, true, true, true, true, true}, []string{"a/1", "", "b/1", ""}},
		{[]bool{true, true, false, true}, []string{"a/0", "0", "a/1", "", "b/1", ""}},
		{[]bool{false, false, false, false}, []string{"a/0", "0"}},
	} {
		d := disk(t)
		synced(t, d, "a/0", "0")
		fine(t, d.Create("a/1"), d.Rename("a/1", "b/1"), d.Unlink("a/0"), d.Create("a/1"))
		d.Crash(api.FsKeep{Changes: x.keep})
		holds(t, d, x.want...)
		waits(t, d, nil, nil)
		d.Crash(api.FsKeep{})
		holds(t, d, x.want...)
	}
}

// TestP1_8SamePath: a path's files follow one another; who survives keeps bytes of its own.
func TestP1_8SamePath(t *testing.T) {
	for _, x := range []struct {
		keep api.FsKeep
		want []string
	}{
		{api.FsKeep{Changes: []bool{true, true, true}, Writes: []int{9, 9}}, []string{"a/x", "two"}},
		{api.FsKeep{Changes: []bool{true, false, true}, Writes: []int{9, 9}}, []string{"a/x", "one!"}},
		{api.FsKeep{Changes: []bool{true}, Writes: []int{2}}, []string{"a/x", "on"}},
		{api.FsKeep{Changes: []bool{true, true, true}, Writes: []int{9, 1}}, []string{"a/x", "t"}},
		{api.FsKeep{Changes: []bool{true, true}, Writes: []int{9, 9}}, []string{}},
		{api.FsKeep{Changes: []bool{false, true, true}, Writes: []int{9, 9}}, []string{}},
	} {
		d := disk(t)
		fine(t, d.Create("a/x"), d.Append("a/x", []byte("one")), d.Append("a/x", []byte("!")), d.Unlink("a/x"), d.Create("a/x"), d.Append("a/x", []byte("two")))
		waits(t, d, []api.FsChange{creates("a/x"), unlinks("a/x"), creates("a/x")}, []api.FsWrites{{Path: "", Bytes: 4}, {Path: "a/x", Bytes: 3}})
		d.Crash(x.keep)
		holds(t, d, x.want...)
	}
}

func TestP1_8Writes(t *testing.T) {
	for kept, want := range []string{"0123", "A123", "AB23", "AB23c", "AB23cd", "AX23cd", "AXY3cd", "AXYZcd", "AXYZcde", "AXYZcde"} {
		d := disk(t)
		synced(t, d, "a/x", "0123")
		synced(t, d, "b/y", "")
		fine(t, d.WriteAt("a/x", 0, []byte("AB")), d.Append("b/y", []byte("no")), d.Append("a/x", []byte("cd")), d.WriteAt("a/x", 1, []byte("XYZ")), d.Append("a/x", nil), d.Append("a/x", []byte("e")))
		waits(t, d, nil, []api.FsWrites{{Path: "a/x", Bytes: 8}, {Path: "b/y", Bytes: 2}})
		d.Crash(api.FsKeep{Writes: []int{kept}})
		holds(t, d, "a/x", want, "b/y", "")
		if d.Used() != len(want) {
			t.Error("Used:", d.Used(), want)
		}
		fine(t, d.Append("a/x", []byte("+")))
		d.Crash(api.FsKeep{Writes: []int{-1}})
		holds(t, d, "a/x", want, "b/y", "")
	}
}

func TestP1_8Lists(t *testing.T) {
	for _, x := range []struct {
		writes []int
		want   []string
	}{
		{nil, []string{"", ""}},
		{[]int{-1, 1}, []string{"", "c"}},
		{[]int{math.MinInt, math.MaxInt}, []string{"", "cd"}},
		{[]int{2}, []string{"ab", ""}},
		{[]int{0, 2, 7, -7}, []string{"", "cd"}},
		{[]int{3, 3}, []string{"ab", "cd"}},
	} {
		d := disk(t)
		fine(t, d.Create("a/x"), d.Create("a/y"), d.SyncDir("a"), d.Append("a/y", []byte("cd")), d.Append("a/x", []byte("ab")))
		d.Crash(api.FsKeep{Changes: []bool{true, false}, Writes: x.writes})
		holds(t, d, "a/x", x.want[0], "a/y", x.want[1])
	}
}

func TestP1_8KeepIsNotChanged(t *testing.T) {
	d := disk(t)
	fine(t, d.Create("a/x"), d.Append("a/x", []byte("hi")))
	k := api.FsKeep{Changes: []bool{true, false}, Writes: []int{1, -1}}
	d.Crash(k)
	if !slices.Equal(k.Changes, []bool{true, false}) || !slices.Equal(k.Writes, []int{1, -1}) {
		t.Error(k)
	}
	holds(t, d, "a/x", "h")
}

// TestP1_8Back: what is unlinked or renamed over comes back, if that does not survive, with its bytes that last and those that are kept.
func TestP1_8Back(t *testing.T) {
	d := disk(t)
	synced(t, d, "a/x", "one")
	synced(t, d, "a/y", "two")
	synced(t, d, "a/z", "three")
	fine(t, d.Append("a/x", []byte("??")), d.WriteAt("a/y", 0, []byte("T")), d.Unlink("a/x"), d.Rename("a/z", "a/y"))
	holds(t, d, "a/y", "three")
	waits(t, d, []api.FsChange{unlinks("a/x"), renames("a/z", "a/y")}, []api.FsWrites{{Path: "", Bytes: 2}, {Path: "", Bytes: 1}})
	d.Crash(api.FsKeep{Writes: []int{1, 1}})
	holds(t, d, "a/x", "one?", "a/y", "Two", "a/z", "three")
	if d.Used() != 12 {
		t.Error("Used:", d.Used())
	}
}

func TestP1_9Copy(t *testing.T) {
	d := disk(t)
	synced(t, d, "a/0", "0")
	fine(t, d.Create("a/x"), d.Append("a/x", []byte("hi")), d.Rename("a/x", "b/x"), d.Unlink("a/0"), d.Fail(3, api.ErrFsFull), d.Arm(4))
	c := d.Copy()
	fine(t, d.WriteAt("b/x", 0, []byte("H")), d.Append("b/x", []byte("!")))
	want(t, "Fail", d.Sync("b/x"), api.ErrFsFull)
	holds(t, d, "b/x", "Hi!")
	holds(t, c, "b/x", "hi")
	if d.Count() != 10 || c.Count() != 8 || c.Used() != 2 {
		t.Error("Count, Used:", d.Count(), c.Count(), c.Used())
	}
	waits(t, c, []api.FsChange{creates("a/x"), renames("a/x", "b/x"), unlinks("a/0")}, []api.FsWrites{{Path: "b/x", Bytes: 2}})
	fine(t, c.Append("b/x", []byte("..")), c.Create("b/z"))
	want(t, "Fail of the copy", c.Sync("b/x"), api.ErrFsFull)
	want(t, "Arm of the copy", c.Sync("b/x"), api.ErrFsOff)
	if d.Off() || !c.Off() || !c.Copy().Off() {
		t.Error("Off:", d.Off(), c.Off(), c.Copy().Off())
	}
	f := c.Copy()
	f.Crash(api.FsKeep{Changes: []bool{true, true}, Writes: []int{3}})
	holds(t, f, "a/0", "0", "b/x", "hi.")
	if !c.Off() {
		t.Error("the copied disk came back with its copy")
	}
	c.Crash(api.FsKeep{Changes: []bool{true, true, true, true}, Writes: []int{4}})
	holds(t, c, "b/x", "hi..", "b/z", "")
	holds(t, d, "b/x", "Hi!")
	c, f = d.Copy(), d.Copy()
	d.Crash(api.FsKeep{Changes: []bool{true}, Writes: []int{1}})
	holds(t, d, "a/0", "0", "a/x", "h")
	holds(t, c, "b/x", "Hi!")
	fine(t, f.Arm(0), f.Sync("b/x"), f.SyncDir("b"))
	c.Crash(api.FsKeep{})
	f.Crash(api.FsKeep{})
	holds(t, c, "a/0", "0")
	holds(t, f, "a/0", "0", "b/x", "Hi!")
}

// TestP1_9CopySharesNothing: neither what lasts nor what waits of one reaches the other.
func TestP1_9CopySharesNothing(t *testing.T) {
	d := disk(t)
	synced(t, d, "a/x", "0123")
	fine(t, d.Append("a/x", []byte("4")), d.Append("a/x", []byte("5")), d.Append("a/x", []byte("6")))
	c := d.Copy()
	fine(t, d.Append("a/x", []byte("d")), c.Append("a/x", []byte("c")))
	f := d.Copy()
	d.Crash(api.FsKeep{Writes: []int{4}})
	holds(t, d, "a/x", "0123456d")
	fine(t, f.WriteAt("a/x", 0, []byte("F")), f.Sync("a/x"))
	c.Crash(api.FsKeep{Writes: []int{4}})
	holds(t, c, "a/x", "0123456c")
	fine(t, d.WriteAt("a/x", 0, []byte("D")))
	f = d.Copy()
	fine(t, d.Sync("a/x"))
	f.Crash(api.FsKeep{})
	holds(t, f, "a/x", "0123456d")
}

// TestArgumentsAreNotKept: who hands bytes in may use them for other things.
func TestArgumentsAreNotKept(t *testing.T) {
	d := disk(t)
	b := []byte("one")
	fine(t, d.Create("a/x"), d.SyncDir("a"), d.Append("a/x", b))
	copy(b, "two")
	fine(t, d.WriteAt("a/x", 0, b[:1]))
	copy(b, "six")
	holds(t, d, "a/x", "tne")
	d.Crash(api.FsKeep{Writes: []int{4}})
	holds(t, d, "a/x", "tne")
}

func TestP1_10SyncedIsThere(t *testing.T) {
	d := disk(t)
	fine(t, d.Create("a/x"), d.Append("a/x", []byte("hi")), d.WriteAt("a/x", 0, []byte("H")), d.Sync("a/x"), d.Rename("a/x", "b/y"), d.SyncDir("b"))
	fine(t, d.Create("a/x"), d.Create("b/x"), d.Append("b/x", []byte("later")))
	for _, keep := range []bool{false, true} {
		c := d.Copy()
		c.Crash(api.FsKeep{Changes: []bool{keep, keep}, Writes: []int{1}})
		if b, e := c.Read("b/y"); string(b) != "Hi" || e != api.OK {
			t.Error(keep, string(b), e)
		}
	}
}

func TestP1_11RenameWholeOrNot(t *testing.T) {
	for bits := range 8 {
		d := disk(t)
		synced(t, d, "a/x", "hi")
		fine(t, d.Rename("a/x", "b/x"), d.Rename("b/x", "a/y"), d.Create("b/x"))
		keep := []bool{bits&1 != 0, bits&2 != 0, bits&4 != 0}
		d.Crash(api.FsKeep{Changes: keep})
		at := "a/x"
		if keep[0] {
			at = "b/x"
		}
		if keep[0] && keep[1] {
			at = "a/y"
		}
		if b, e := d.Read(at); string(b) != "hi" || e != api.OK || d.Used() != 2 {
			t.Errorf("%v: %s is %q %v of %d", keep, at, b, e, d.Used())
		}
	}
}

func TestP1_12RefusedChangesNothing(t *testing.T) {
	d := disk(t)
	synced(t, d, "a/0", "0")
	fine(t, d.Create("a/x"), d.Append("a/x", []byte("hi")), d.Unlink("a/0"))
	c, w := d.Wait()
	for i, e := range []api.Errno{
		d.Create("a/x"), d.Create("c/x"), d.Create("a/"), d.Append("a/q", []byte("z")), d.Append("a/x", make([]byte, 99)),
		d.WriteAt("a/x", 1, []byte("zz")), d.WriteAt("a/x", -1, []byte("zz")), d.WriteAt("a/q", 0, nil), d.Sync("a/q"), d.Rename("a/q", "a/r"),
		d.Rename("a/x", "c/x"), d.Unlink("a/q"), d.SyncDir("c"), d.Fail(-1, api.ErrFsIo), d.Fail(1, api.OK), d.Arm(-1),
	} {
		if e == api.OK {
			t.Errorf("call %d was not refused", i)
		}
	}
	holds(t, d, "a/x", "hi")
	waits(t, d, c, w)
	if d.Count() != 7 || d.Used() != 2 || d.Off() {
		t.Error("Count, Used, Off:", d.Count(), d.Used(), d.Off())
	}
	d.Crash(api.FsKeep{})
	holds(t, d, "a/0", "0")
}

func TestExamples(t *testing.T) {
	hi := func() *simfs.Disk {
		d := disk(t)
		fine(t, d.Create("a/x"), d.Append("a/x", []byte("hi")), d.Sync("a/x"))
		return d
	}
	d := hi()
	d.Crash(api.FsKeep{})
	holds(t, d)

	d = hi()
	fine(t, d.SyncDir("a"), d.Append("a/x", []byte("yo")))
	d.Crash(api.FsKeep{Writes: []int{1}})
	holds(t, d, "a/x", "hiy")

	d = disk(t)
	fine(t, d.Create("a/x"), d.Rename("a/x", "b/y"))
	d.Crash(api.FsKeep{Changes: []bool{false, true}})
	holds(t, d)

	d = disk(t)
	fine(t, d.Create("a/x"), d.SyncDir("a"), d.Rename("a/x", "b/y"), d.SyncDir("b"))
	d.Crash(api.FsKeep{})
	holds(t, d, "b/y", "")

	d = disk(t)
	want(t, "Append", d.Append("a/x", []byte("..")), api.ErrFsNone)
	want(t, "Create", d.Create("c/x"), api.ErrFsName)
	want(t, "Create", d.Create("a/"), api.ErrFsName)
	fine(t, d.Create("a/x"), d.Append("a/x", []byte("hi")))
	want(t, "WriteAt", d.WriteAt("a/x", 2, []byte("z")), api.ErrArg)
}
