package queuefs

import "waybill/api"

// step is one of a commit: mostly a change of the disk.
type step func() api.Errno

// commit does steps one behind the other, up to the first one that has an error.
func commit(steps ...step) api.Errno {
	for _, do := range steps {
		if e := do(); e != api.OK {
			return e
		}
	}
	return api.OK
}

func pathOf(dir, name string) string { return dir + "/" + name }

func (q *Queue) create(path string) step {
	return func() api.Errno { return q.disk.Create(path) }
}

func (q *Queue) append(path string, b []byte) step {
	return func() api.Errno { return q.disk.Append(path, b) }
}

func (q *Queue) writeAt(path string, at int, b []byte) step {
	return func() api.Errno { return q.disk.WriteAt(path, at, b) }
}

func (q *Queue) sync(path string) step {
	return func() api.Errno { return q.disk.Sync(path) }
}

func (q *Queue) rename(from, to string) step {
	return func() api.Errno { return q.disk.Rename(from, to) }
}

func (q *Queue) unlink(path string) step {
	return func() api.Errno { return q.disk.Unlink(path) }
}

func (q *Queue) syncDir(dir string) step {
	return func() api.Errno { return q.disk.SyncDir(dir) }
}

// unless skips a step if there is such a file; when skips one if there is none.
func (q *Queue) unless(path string, do step) step {
	return func() api.Errno {
		if _, there := q.disk.Len(path); there {
			return api.OK
		}
		return do()
	}
}

func (q *Queue) when(path string, do step) step {
	return func() api.Errno {
		if _, there := q.disk.Len(path); there {
			return do()
		}
		return api.OK
	}
}
