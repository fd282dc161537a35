package queuefs

import (
	"strconv"
	"strings"

	"waybill/api"
	"waybill/codec"
)

const (
	maxNumber = 1 << 53
	atOnce    = 64 // ids that may be told when they went further once
	farName   = "next"
	farPath   = tmp + "/" + farName
	farTemp   = tmp + "/next.new"
)

func idOf(number int) string { return "Q" + strconv.Itoa(number) }

// numberOf is an id's number; 0 of what is no id.
func numberOf(name string) int {
	digits, is := strings.CutPrefix(name, "Q")
	n, size, e := codec.TakeNumber([]byte(digits + ";"))
	if !is || e != api.OK || size != len(digits)+1 {
		return 0
	}
	return n
}

func isId(name string) bool { return numberOf(name) > 0 }

// takeId is the next id: it is not the next one any more, whatever becomes of it.
func (q *Queue) takeId() (string, api.Errno) {
	if q.next > maxNumber {
		return "", api.ErrQueueIds
	}
	for q.next >= q.far {
		if e := q.goFurther(); e != api.OK {
			return "", e
		}
	}
	id := idOf(q.next)
	q.next++
	return id, api.OK
}

// goFurther writes down how far ids may go ahead of the first of them being told: none of them is told again, though a crash lets the next one's number be forgotten.
func (q *Queue) goFurther() api.Errno {
	far := q.far + atOnce
	var b []byte
	e := commit(
		q.when(farTemp, q.unlink(farTemp)),
		q.create(farTemp),
		func() api.Errno { return numberInto(&b, far) },
		func() api.Errno { return q.disk.Append(farTemp, b) },
		q.sync(farTemp),
		q.rename(farTemp, farPath),
		q.syncDir(tmp),
	)
	if e == api.OK {
		q.far = far
	}
	return e
}

func numberInto(b *[]byte, n int) api.Errno {
	digits, e := codec.Number(n)
	if e != api.OK {
		return api.ErrQueueIds
	}
	*b = digits
	return api.OK
}
