// Package simfs is layer 1: a disk of directories, whose power may go: see shared/doc/01-simfs.md.
package simfs

import (
	"maps"
	"slices"
	"strings"

	"waybill/api"
)

// Disk has directories of files.
type Disk struct {
	quota    int
	dirs     []string         // rising
	now      map[string]*file // by their paths
	lasting  map[string]*file // what would be there, if nothing that waits survived
	waits    []change         // in their order
	unsynced map[int]*file    // those with waiting bytes, by their numbers
	made     int              // how many files were made
	used     int
	count    int
	arm      int // the power goes ahead of the so manieth change; 0: it does not
	fail     int // the so manieth change is refused; 0: none is
	refusal  api.Errno
	off      bool
}

// New is one of so many bytes, with these directories.
func New(quota int, dirs []string) (*Disk, api.Errno) {
	if quota < 1 || quota > api.MaxFsBytes || len(dirs) < 1 || len(dirs) > api.MaxFsDirs {
		return nil, api.ErrArg
	}
	sorted := slices.Clone(dirs)
	slices.Sort(sorted)
	for i, dir := range sorted {
		if !isName(dir) || i > 0 && dir == sorted[i-1] {
			return nil, api.ErrArg
		}
	}
	return &Disk{
		quota:    quota,
		dirs:     sorted,
		now:      map[string]*file{},
		lasting:  map[string]*file{},
		unsynced: map[int]*file{},
	}, api.OK
}

func isName(s string) bool {
	if len(s) < 1 || len(s) > api.MaxFsName {
		return false
	}
	for i := 0; i < len(s); i++ {
		c := s[i]
		letter := 'a' <= c && c <= 'z' || 'A' <= c && c <= 'Z'
		digit := '0' <= c && c <= '9'
		if !letter && !digit && c != '-' && c != '_' && c != '.' {
			return false
		}
	}
	return true
}

func (d *Disk) hasDir(dir string) bool {
	_, has := slices.BinarySearch(d.dirs, dir)
	return has
}

// mayBe tells whether a file could have that path.
func (d *Disk) mayBe(path string) bool {
	dir, name, _ := strings.Cut(path, "/")
	return d.hasDir(dir) && isName(name)
}

// begin is asked ahead of each change that its arguments allow: whether it is to be done.
func (d *Disk) begin() api.Errno {
	if itsTurn(&d.arm) {
		d.off = true
		return api.ErrFsOff
	}
	if itsTurn(&d.fail) {
		return d.refusal
	}
	d.count++
	return api.OK
}

// itsTurn counts down to the change that is meant; 0 means none.
func itsTurn(left *int) bool {
	if *left == 0 {
		return false
	}
	*left--
	return *left == 0
}

// Create makes a file; Append, WriteAt write to one; Sync makes what was written to it last.
func (d *Disk) Create(path string) api.Errno {
	switch {
	case d.off:
		return api.ErrFsOff
	case !d.mayBe(path):
		return api.ErrFsName
	case d.now[path] != nil:
		return api.ErrFsThere
	case len(d.now) >= api.MaxFsFiles: // a crash may bring more back
		return api.ErrFsMany
	}
	if e := d.begin(); e != api.OK {
		return e
	}
	d.made++
	f := &file{number: d.made, path: path}
	d.enter(change{FsChange: api.FsChange{Kind: api.FsCreate, To: path}, file: f})
	return api.OK
}

func (d *Disk) Append(path string, b []byte) api.Errno {
	if d.off {
		return api.ErrFsOff
	}
	f := d.now[path]
	if f == nil {
		return api.ErrFsNone
	}
	if len(b) > d.quota-d.used {
		return api.ErrFsFull
	}
	if e := d.begin(); e != api.OK {
		return e
	}
	d.used += len(b)
	d.write(f, len(f.now), b)
	return api.OK
}

func (d *Disk) WriteAt(path string, at int, b []byte) api.Errno {
	if d.off {
		return api.ErrFsOff
	}
	f := d.now[path]
	if f == nil {
		return api.ErrFsNone
	}
	if at < 0 || at > len(f.now)-len(b) {
		return api.ErrArg
	}
	if e := d.begin(); e != api.OK {
		return e
	}
	d.write(f, at, b)
	return api.OK
}

func (d *Disk) write(f *file, at int, b []byte) {
	if len(b) == 0 {
		return
	}
	f.write(at, b)
	d.unsynced[f.number] = f
}

func (d *Disk) Sync(path string) api.Errno {
	if d.off {
		return api.ErrFsOff
	}
	f := d.now[path]
	if f == nil {
		return api.ErrFsNone
	}
	if e := d.begin(); e != api.OK {
		return e
	}
	f.keep(f.waiting)
	delete(d.unsynced, f.number)
	return api.OK
}

// Rename gives a file another path, Unlink takes one away; SyncDir makes such changes of a directory last.
func (d *Disk) Rename(from, to string) api.Errno {
	if d.off {
		return api.ErrFsOff
	}
	f := d.now[from]
	if f == nil {
		return api.ErrFsNone
	}
	if !d.mayBe(to) {
		return api.ErrFsName
	}
	if e := d.begin(); e != api.OK {
		return e
	}
	if from == to {
		return api.OK
	}
	f.path = to
	d.enter(change{FsChange: api.FsChange{Kind: api.FsRename, From: from, To: to}})
	return api.OK
}

func (d *Disk) Unlink(path string) api.Errno {
	if d.off {
		return api.ErrFsOff
	}
	if d.now[path] == nil {
		return api.ErrFsNone
	}
	if e := d.begin(); e != api.OK {
		return e
	}
	d.enter(change{FsChange: api.FsChange{Kind: api.FsUnlink, From: path}})
	return api.OK
}

// enter does an entry change, which waits from then on.
func (d *Disk) enter(c change) {
	if gone := c.do(d.now); gone != nil {
		d.used -= len(gone.now)
		gone.path, gone.now = "", nil
	}
	d.waits = append(d.waits, c)
}

func (d *Disk) SyncDir(dir string) api.Errno {
	if d.off {
		return api.ErrFsOff
	}
	if !d.hasDir(dir) {
		return api.ErrFsNone
	}
	if e := d.begin(); e != api.OK {
		return e
	}
	d.waits = settle(d.waits, toLast(d.waits, dir), d.lasting)
	return api.OK
}

// Read tells a file's bytes, Len how many they are, List a directory's names, Dirs the directories.
func (d *Disk) Read(path string) ([]byte, api.Errno) {
	if d.off {
		return nil, api.ErrFsOff
	}
	f := d.now[path]
	if f == nil {
		return nil, api.ErrFsNone
	}
	return slices.Clone(f.now), api.OK
}

func (d *Disk) Len(path string) (int, bool) {
	f := d.now[path]
	if d.off || f == nil {
		return 0, false
	}
	return len(f.now), true
}

func (d *Disk) List(dir string) ([]string, api.Errno) {
	if d.off {
		return nil, api.ErrFsOff
	}
	if !d.hasDir(dir) {
		return nil, api.ErrFsNone
	}
	var names []string
	for path := range d.now {
		if name, in := strings.CutPrefix(path, dir+"/"); in {
			names = append(names, name)
		}
	}
	slices.Sort(names)
	return names, api.OK
}

func (d *Disk) Dirs() []string { return slices.Clone(d.dirs) }

// Used tells how many bytes all files have, Count how many changes were done.
func (d *Disk) Used() int {
	if d.off {
		return 0
	}
	return d.used
}

func (d *Disk) Count() int { return d.count }

// Fail lets the n-th change from now on be refused with an error, Arm the power go ahead of the n-th.
func (d *Disk) Fail(n int, e api.Errno) api.Errno {
	if d.off {
		return api.ErrFsOff
	}
	if n < 0 || e != api.ErrFsIo && e != api.ErrFsFull {
		return api.ErrArg
	}
	d.fail, d.refusal = n, e
	return api.OK
}

func (d *Disk) Arm(n int) api.Errno {
	if d.off {
		return api.ErrFsOff
	}
	if n < 0 {
		return api.ErrArg
	}
	d.arm = n
	return api.OK
}

// Off tells whether the power is; Wait what does not last yet; Crash what survives of it.
func (d *Disk) Off() bool { return d.off }

func (d *Disk) Wait() ([]api.FsChange, []api.FsWrites) {
	var writes []api.FsWrites
	for _, f := range d.written() {
		writes = append(writes, api.FsWrites{Path: f.path, Bytes: f.waiting})
	}
	return told(d.waits), writes
}

// written are the files that have waiting bytes, in the order in which they were made.
func (d *Disk) written() []*file {
	var l []*file
	for _, number := range slices.Sorted(maps.Keys(d.unsynced)) {
		l = append(l, d.unsynced[number])
	}
	return l
}

func (d *Disk) Crash(k api.FsKeep) {
	for i, f := range d.written() {
		kept := 0
		if i < len(k.Writes) {
			kept = k.Writes[i]
		}
		f.keep(kept)
	}
	settle(d.waits, survivors(d.waits, k.Changes), d.lasting)
	d.waits = nil
	d.unsynced = map[int]*file{}
	d.now = maps.Clone(d.lasting)
	d.used = 0
	for path, f := range d.now {
		f.path = path
		f.now = slices.Clone(f.lasting)
		d.used += len(f.now)
	}
	d.arm, d.fail, d.off = 0, 0, false
}

// Copy is another disk that is as this one is.
func (d *Disk) Copy() *Disk {
	copies := map[int]*file{}
	c := *d
	c.dirs = slices.Clone(d.dirs)
	c.now = copied(d.now, copies)
	c.lasting = copied(d.lasting, copies)
	c.unsynced = copied(d.unsynced, copies)
	c.waits = slices.Clone(d.waits)
	for i, w := range d.waits {
		c.waits[i].file = w.file.copied(copies)
	}
	return &c
}
