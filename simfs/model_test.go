package simfs_test

import (
	"slices"
	"strings"
	"testing"

	"waybill/api"
	"waybill/simfs"
)

// model is the disk as the chapter's words say it, by definitions alone: files are numbers, and each question goes through all that was done since all lasted.
type model struct {
	quota       int
	dirs        []string
	paths       map[string]int // of files that are there
	lasting     map[string]int
	base        map[int]string // bytes that last
	bytes       map[int]string
	writes      []modelWrite
	waits       []modelChange
	made, count int
	arm, fail   int
	refusal     api.Errno
	off         bool
}

type modelWrite struct {
	file, at int
	bytes    string
}

type modelChange struct {
	api.FsChange
	file int
}

func newModel(quota int, dirs ...string) *model {
	return &model{quota: quota, dirs: dirs, paths: map[string]int{}, lasting: map[string]int{}, base: map[int]string{}, bytes: map[int]string{}}
}

func (m *model) mayBe(path string) bool {
	const right = "abcdefghijklmnopqrstuvwxyzABCDEFGHIJKLMNOPQRSTUVWXYZ0123456789-_."
	parts := strings.Split(path, "/")
	return len(parts) == 2 && slices.Contains(m.dirs, parts[0]) && parts[1] != "" && len(parts[1]) <= 32 && strings.Trim(parts[1], right) == ""
}

func (m *model) used() int {
	n := 0
	for _, f := range m.paths {
		n += len(m.bytes[f])
	}
	return n
}

// change answers, in this order: off, refused (the first one that is no OK), the power, a failure; else it does it.
func (m *model) change(refused []api.Errno, do func()) api.Errno {
	if m.off {
		return api.ErrFsOff
	}
	for _, e := range refused {
		if e != api.OK {
			return e
		}
	}
	m.arm--
	m.fail--
	if m.arm == 0 {
		m.off = true
		return api.ErrFsOff
	}
	if m.fail == 0 {
		return m.refusal
	}
	m.count++
	do()
	return api.OK
}

func when(is bool, e api.Errno) api.Errno {
	if is {
		return e
	}
	return api.OK
}

func (m *model) create(path string) api.Errno {
	_, there := m.paths[path]
	return m.change([]api.Errno{when(!m.mayBe(path), api.ErrFsName), when(there, api.ErrFsThere), when(len(m.paths) >= 4096, api.ErrFsMany)}, func() {
		m.made++
		m.paths[path] = m.made
		m.waits = append(m.waits, modelChange{api.FsChange{Kind: api.FsCreate, To: path}, m.made})
	})
}

func (m *model) put(path string, at int, b string, refused ...api.Errno) api.Errno {
	f, there := m.paths[path]
	return m.change(append([]api.Errno{when(!there, api.ErrFsNone)}, refused...), func() {
		w := modelWrite{f, at, b}
		m.bytes[f] = w.on(m.bytes[f])
		m.writes = append(m.writes, w)
	})
}

func (w modelWrite) on(s string) string {
	if w.bytes == "" {
		return s
	}
	tail := ""
	if end := w.at + len(w.bytes); end < len(s) {
		tail = s[end:]
	}
	return s[:w.at] + w.bytes + tail
}

func (m *model) append(path, b string) api.Errno {
	return m.put(path, len(m.bytes[m.paths[path]]), b, when(m.used()+len(b) > m.quota, api.ErrFsFull))
}

func (m *model) writeAt(path string, at int, b string) api.Errno {
	return m.put(path, at, b, when(at < 0 || at+len(b) > len(m.bytes[m.paths[path]]), api.ErrArg))
}

func (m *model) sync(path string) api.Errno {
	f, there := m.paths[path]
	return m.change([]api.Errno{when(!there, api.ErrFsNone)}, func() {
		m.base[f] = m.bytes[f]
		m.writes = slices.DeleteFunc(m.writes, func(w modelWrite) bool { return w.file == f })
	})
}

func (m *model) rename(from, to string) api.Errno {
	f, there := m.paths[from]
	return m.change([]api.Errno{when(!there, api.ErrFsNone), when(!m.mayBe(to), api.ErrFsName)}, func() {
		if from != to {
			delete(m.paths, from)
			m.paths[to] = f
			m.waits = append(m.waits, modelChange{api.FsChange{Kind: api.FsRename, From: from, To: to}, f})
		}
	})
}

func (m *model) unlink(path string) api.Errno {
	f, there := m.paths[path]
	return m.change([]api.Errno{when(!there, api.ErrFsNone)}, func() {
		delete(m.paths, path)
		m.waits = append(m.waits, modelChange{api.FsChange{Kind: api.FsUnlink, From: path}, f})
	})
}

func (m *model) syncDir(dir string) api.Errno {
	return m.change([]api.Errno{when(!slices.Contains(m.dirs, dir), api.ErrFsNone)}, func() {
		brought := make([]bool, len(m.waits))
		for i, c := range m.waits {
			if dirOf(c.From) == dir || dirOf(c.To) == dir {
				m.bring(i, brought)
			}
		}
		var rest []modelChange
		for i, c := range m.waits {
			if !brought[i] {
				rest = append(rest, c)
			}
		}
		m.waits = rest
	})
}

func dirOf(path string) string {
	dir, _, _ := strings.Cut(path, "/")
	return dir
}

func (m *model) leans(i, on int) bool {
	c, d := m.waits[i], m.waits[on]
	for _, p := range []string{c.From, c.To} {
		if on < i && p != "" && (p == d.From || p == d.To) {
			return true
		}
	}
	return false
}

// bring does all on which a change leans, then it.
func (m *model) bring(i int, brought []bool) {
	if brought[i] {
		return
	}
	for j := range i {
		if m.leans(i, j) {
			m.bring(j, brought)
		}
	}
	brought[i] = true
	m.last(m.waits[i])
}

func (m *model) last(c modelChange) {
	if c.From != "" {
		delete(m.lasting, c.From)
	}
	if c.To != "" {
		m.lasting[c.To] = c.file
	}
}

func (m *model) wait() (changes []api.FsChange, writes []api.FsWrites) {
	for _, c := range m.waits {
		changes = append(changes, c.FsChange)
	}
	for f := 1; f <= m.made; f++ {
		w := api.FsWrites{}
		for _, x := range m.writes {
			if x.file == f {
				w.Bytes += len(x.bytes)
			}
		}
		for path, g := range m.paths {
			if f == g {
				w.Path = path
			}
		}
		if w.Bytes > 0 {
			writes = append(writes, w)
		}
	}
	return changes, writes
}

func (m *model) survives(i int, keep []bool) bool {
	if i >= len(keep) || !keep[i] {
		return false
	}
	for j := range i {
		if m.leans(i, j) && !m.survives(j, keep) {
			return false
		}
	}
	return true
}

func (m *model) crash(k api.FsKeep) {
	m.keepWrites(k.Writes)
	for i, c := range m.waits {
		if m.survives(i, k.Changes) {
			m.last(c)
		}
	}
	m.waits, m.writes = nil, nil
	m.paths, m.bytes = map[string]int{}, map[int]string{}
	for path, f := range m.lasting {
		m.paths[path], m.bytes[f] = f, m.base[f]
	}
	m.arm, m.fail, m.off = 0, 0, false
}

func (m *model) keepWrites(keep []int) {
	place := 0
	for f := 1; f <= m.made; f++ {
		left, waits := 0, false
		if place < len(keep) {
			left = keep[place]
		}
		for _, w := range m.writes {
			if w.file != f || w.bytes == "" {
				continue
			}
			waits = true
			w.bytes = w.bytes[:max(0, min(left, len(w.bytes)))]
			left -= len(w.bytes)
			m.base[f] = w.on(m.base[f])
		}
		if waits {
			place++
		}
	}
}

func (m *model) copy() *model {
	c := *m
	c.paths, c.lasting, c.base, c.bytes = map[string]int{}, map[string]int{}, map[int]string{}, map[int]string{}
	for k, v := range m.paths {
		c.paths[k] = v
	}
	for k, v := range m.lasting {
		c.lasting[k] = v
	}
	for k, v := range m.base {
		c.base[k] = v
	}
	for k, v := range m.bytes {
		c.bytes[k] = v
	}
	c.waits, c.writes = slices.Clone(m.waits), slices.Clone(m.writes)
	return &c
}

// dice are numbers that look like chance, the same ones each time.
type dice uint64

func (d *dice) roll(n int) int {
	*d = *d*6364136223846793005 + 1442695040888963407
	return int(uint64(*d>>33) % uint64(n))
}

func (d *dice) pick(l ...string) string { return l[d.roll(len(l))] }

func (d *dice) path() string {
	if d.roll(40) == 0 {
		return d.pick("", "a", "a/", "d/x", "a/x/y", "b/ ")
	}
	return d.pick("a", "b", "c") + "/" + d.pick("x", "y", "z")
}

func (d *dice) keep() api.FsKeep {
	var k api.FsKeep
	odds := d.roll(10) + 1
	for range d.roll(30) {
		k.Changes = append(k.Changes, d.roll(odds) > 0)
	}
	for range d.roll(12) {
		k.Writes = append(k.Writes, d.roll(14)-2)
	}
	return k
}

func play(d *dice, s *simfs.Disk, m *model) (string, api.Errno, api.Errno) {
	path, to := d.path(), d.path()
	switch n := d.roll(100); {
	case n < 18:
		return "Create " + path, s.Create(path), m.create(path)
	case n < 36:
		b := "0123456789abc"[d.roll(10):][:d.roll(4)]
		return "Append " + path + " " + b, s.Append(path, []byte(b)), m.append(path, b)
	case n < 50:
		at, b := d.roll(8)-1, "ABCDEFGHIJKLM"[d.roll(10):][:d.roll(4)]
		return "WriteAt " + path + " " + b, s.WriteAt(path, at, []byte(b)), m.writeAt(path, at, b)
	case n < 60:
		return "Sync " + path, s.Sync(path), m.sync(path)
	case n < 76:
		return "Rename " + path + " " + to, s.Rename(path, to), m.rename(path, to)
	case n < 86:
		return "Unlink " + path, s.Unlink(path), m.unlink(path)
	case n < 92:
		dir := d.pick("a", "b", "c", "d", "")
		return "SyncDir " + dir, s.SyncDir(dir), m.syncDir(dir)
	case n < 94:
		n, e := d.roll(6)-1, api.ErrFsIo+api.Errno(d.roll(3))-1
		return "Fail", s.Fail(n, e), m.setting(n < 0 || e > api.ErrFsIo || e < api.ErrFsFull, func() { m.fail, m.refusal = n, e })
	case n < 96:
		n := d.roll(12) - 1
		return "Arm", s.Arm(n), m.setting(n < 0, func() { m.arm = n })
	default:
		k := d.keep()
		s.Crash(k)
		m.crash(k)
		return "Crash", 0, 0
	}
}

// setting is Fail or Arm: not counted, nor refused by others.
func (m *model) setting(wrong bool, do func()) api.Errno {
	if m.off {
		return api.ErrFsOff
	}
	if wrong {
		return api.ErrArg
	}
	do()
	return api.OK
}

func same(t *testing.T, what string, s *simfs.Disk, m *model) {
	t.Helper()
	changes, writes := m.wait()
	waits(t, s, changes, writes)
	if s.Off() != m.off || s.Count() != m.count {
		t.Errorf("Off, Count: %v %v, not %v %v", s.Off(), s.Count(), m.off, m.count)
	}
	want := []string{}
	used := 0
	if !m.off {
		for path, f := range m.paths {
			want = append(want, path+" "+m.bytes[f])
		}
		used = m.used()
	}
	slices.Sort(want)
	got := contents(s)
	var joined []string
	for i := 0; i < len(got); i += 2 {
		joined = append(joined, got[i]+" "+got[i+1])
		if n, is := s.Len(got[i]); n != len(got[i+1]) || !is {
			t.Errorf("Len(%s): %d %v", got[i], n, is)
		}
	}
	if !slices.Equal(joined, want) || s.Used() != used {
		t.Errorf("there are %q (%d), not %q (%d)", joined, s.Used(), want, used)
	}
	if t.Failed() {
		t.Fatal("behind", what)
	}
}

// TestModel plays the same calls on a disk and on the model of it, and on copies of both (P1.2 to P1.12).
func TestModel(t *testing.T) {
	d := dice(1)
	for range 400 {
		s, m := diskOf(t, 30, "a", "b", "c"), newModel(30, "a", "b", "c")
		for range 120 {
			if d.roll(30) == 0 {
				c, n := s.Copy(), m.copy()
				for range 6 {
					play(&d, c, n)
				}
				same(t, "a copy's calls", c, n)
				if d.roll(2) == 0 {
					s, m = c, n
				}
			}
			what, got, e := play(&d, s, m)
			if got != e {
				t.Fatalf("%s: %v, not %v", what, got, e)
			}
			same(t, what, s, m)
		}
	}
}
