package queuefs

import (
	"waybill/api"
	"waybill/codec"
)

// Log puts a line behind a message's log, Logged tells them, Drop takes them away.
func (q *Queue) Log(id, line string) api.Errno {
	if _, e := q.find(id); e != api.OK {
		return e
	}
	path := pathOf(bounce, id)
	size, _ := q.disk.Len(path)
	text, e := codec.Text(line)
	if e != api.OK || len(line) > api.MaxLogLine || size+len(text) > api.MaxLog {
		return api.ErrQueueLine
	}
	return commit(
		q.unless(path, q.create(path)),
		q.append(path, text),
		q.sync(path),
		q.syncDir(bounce),
	)
}

func (q *Queue) Logged(id string) ([]string, api.Errno) {
	if !q.hasLog(id) && !q.disk.Off() {
		return nil, api.OK
	}
	b, e := q.disk.Read(pathOf(bounce, id))
	if e != api.OK {
		return nil, e
	}
	lines, _ := texts(b)
	return lines, api.OK
}

func (q *Queue) Drop(id string) api.Errno {
	if !q.hasLog(id) {
		return q.none()
	}
	return commit(q.unlink(pathOf(bounce, id)), q.syncDir(bounce))
}

func (q *Queue) hasLog(id string) bool {
	_, there := q.disk.Len(pathOf(bounce, id))
	return there && isId(id)
}

// texts are those with which bytes begin; how many bytes they have.
func texts(b []byte) ([]string, int) {
	var l []string
	at := 0
	for {
		s, size, e := codec.TakeText(b[at:])
		if e != api.OK {
			return l, at
		}
		l = append(l, s)
		at += size
	}
}
