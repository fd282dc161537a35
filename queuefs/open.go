package queuefs

import (
	"slices"

	"waybill/api"
	"waybill/codec"
	"waybill/record"
	"waybill/simfs"
)

// Open scans a disk, and puts it right.
func Open(d *simfs.Disk) (*Queue, api.QueueFound, api.Errno) {
	if d == nil || !hasDirs(d) {
		return nil, api.QueueFound{}, api.ErrArg
	}
	r := recovery{Queue: &Queue{disk: d}}
	e := commit(
		r.emptyTmp,
		r.readFar,
		r.sortQueues,
		r.mendLogs,
		r.syncDir(active),
		r.syncDir(bounce),
		r.syncDir(corrupt),
		r.syncDir(incoming),
		r.syncDir(tmp),
		r.passIds,
	)
	if e != api.OK {
		return nil, api.QueueFound{}, e
	}
	return r.Queue, r.found, api.OK
}

func hasDirs(d *simfs.Disk) bool {
	have := d.Dirs()
	for _, dir := range Dirs() {
		if !slices.Contains(have, dir) {
			return false
		}
	}
	return true
}

// recovery is a queue that is being put right, and what was met by then.
type recovery struct {
	*Queue
	found api.QueueFound
}

// each does something with each name of a directory, by rising names.
func (r *recovery) each(dir string, do func(name string) api.Errno) api.Errno {
	names, e := r.disk.List(dir)
	if e != api.OK {
		return e
	}
	for _, name := range names {
		if e := do(name); e != api.OK {
			return e
		}
	}
	return api.OK
}

func (r *recovery) emptyTmp() api.Errno {
	return r.each(tmp, func(name string) api.Errno {
		if name == farName {
			return api.OK
		}
		return r.dropFile(tmp, name)
	})
}

func (r *recovery) dropFile(dir, name string) api.Errno {
	r.found.Dropped++
	return r.disk.Unlink(pathOf(dir, name))
}

// readFar lets ids begin where they might have gone to: which of them were told is not written down.
func (r *recovery) readFar() api.Errno {
	n := 1
	b, e := r.disk.Read(farPath)
	if e != api.OK && e != api.ErrFsNone {
		return e
	}
	if e == api.OK {
		var size int
		n, size, e = codec.TakeNumber(b)
		if e != api.OK || size != len(b) || n < 1 {
			return api.ErrQueueForm
		}
	}
	r.next, r.far = n, n
	return api.OK
}

func (r *recovery) sortQueues() api.Errno {
	for _, dir := range queues() {
		e := r.each(dir, func(name string) api.Errno { return r.sortFile(dir, name) })
		if e != api.OK {
			return e
		}
	}
	return api.OK
}

func (r *recovery) sortFile(dir, name string) api.Errno {
	b, e := r.disk.Read(pathOf(dir, name))
	if e != api.OK {
		return e
	}
	if _, e := record.Decode(b); e != api.OK || !isId(name) {
		r.found.Corrupt++
		return r.disk.Rename(pathOf(dir, name), pathOf(corrupt, name))
	}
	if dir == active {
		r.found.Back++
		return r.disk.Rename(pathOf(dir, name), pathOf(incoming, name))
	}
	return api.OK
}

func (r *recovery) mendLogs() api.Errno {
	return r.each(bounce, func(name string) api.Errno {
		if _, is := r.Where(name); !is {
			return r.dropFile(bounce, name)
		}
		return r.mendLog(name)
	})
}

// mendLog cuts off what a crash left of a text.
func (r *recovery) mendLog(name string) api.Errno {
	path, temp := pathOf(bounce, name), pathOf(tmp, name)
	b, e := r.disk.Read(path)
	if e != api.OK {
		return e
	}
	_, size := texts(b)
	if size == len(b) {
		return api.OK
	}
	return commit(r.create(temp), r.append(temp, b[:size]), r.sync(temp), r.rename(temp, path))
}

// passIds counts the messages, and lets ids begin behind all that are there. How far they may go is written down when the first one is taken.
func (r *recovery) passIds() api.Errno {
	greatest := 0
	pass := func(name string) api.Errno {
		greatest = max(greatest, numberOf(name))
		return api.OK
	}
	for _, dir := range queues() {
		e := r.each(dir, func(name string) api.Errno {
			r.found.Messages++
			return pass(name)
		})
		if e != api.OK {
			return e
		}
	}
	if e := r.each(corrupt, pass); e != api.OK {
		return e
	}
	if greatest >= r.next {
		r.next, r.far = greatest+1, greatest+1
	}
	return api.OK
}
