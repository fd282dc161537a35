package record

import (
	"bytes"

	"waybill/api"
	"waybill/codec"
)

const sumDigits = 8

// Decode reads a message's bytes.
func Decode(b []byte) (api.Message, api.Errno) {
	r := reader{b: b}
	var m api.Message
	var data string
	e := r.fixed("W1;t")
	if e != api.OK {
		goto refuse
	}
	if m.Time, e = r.number(); e != api.OK {
		goto refuse
	}
	if m.From, e = r.from(); e != api.OK {
		goto refuse
	}
	if m.Rcpts, e = r.rcpts(); e != api.OK {
		goto refuse
	}
	if e = r.fixed("d"); e != api.OK {
		goto refuse
	}
	if data, e = r.text(); e != api.OK {
		goto refuse
	}
	if e = r.end(); e != api.OK {
		goto refuse
	}
	m.Data = []byte(data)
	return m, api.OK
refuse:
	return api.Message{}, e
}

// reader goes through a record's bytes: how many of them are read, and where the marks among these stand.
type reader struct {
	b     []byte
	at    int
	marks []int
}

// fixed reads bytes that are the same in every record; the first one that is missing or another one is what is told.
func (r *reader) fixed(s string) api.Errno {
	for _, c := range []byte(s) {
		if r.at == len(r.b) {
			return api.ErrRecordShort
		}
		if r.b[r.at] != c {
			return api.ErrRecordForm
		}
		r.at++
	}
	return api.OK
}

func (r *reader) number() (int, api.Errno) {
	n, size, e := codec.TakeNumber(r.b[r.at:])
	r.at += size
	return n, told(e)
}

func (r *reader) text() (string, api.Errno) {
	s, size, e := codec.TakeText(r.b[r.at:])
	r.at += size
	return s, told(e)
}

func (r *reader) from() (string, api.Errno) {
	var s string
	e := r.fixed("f")
	if e != api.OK {
		goto refuse
	}
	if s, e = r.text(); e != api.OK {
		goto refuse
	}
	if !mayBeFrom(s) {
		e = api.ErrRecordForm
		goto refuse
	}
	return s, api.OK
refuse:
	return "", e
}

func (r *reader) rcpts() ([]api.Rcpt, api.Errno) {
	var l []api.Rcpt
	var n int
	e := r.fixed("n")
	if e != api.OK {
		goto refuse
	}
	if n, e = r.number(); e != api.OK {
		goto refuse
	}
	if !mayBeCount(n) {
		e = api.ErrRecordForm
		goto refuse
	}
	l = make([]api.Rcpt, n)
	for i := range l {
		if l[i], e = r.rcpt(); e != api.OK {
			goto refuse
		}
	}
	return l, api.OK
refuse:
	return nil, e
}

func (r *reader) rcpt() (api.Rcpt, api.Errno) {
	var to string
	var mark byte
	e := r.fixed("r")
	if e != api.OK {
		goto refuse
	}
	if mark, e = r.mark(); e != api.OK {
		goto refuse
	}
	if to, e = r.text(); e != api.OK {
		goto refuse
	}
	if !isAddress(to) {
		e = api.ErrRecordForm
		goto refuse
	}
	return api.Rcpt{To: to, Mark: mark}, api.OK
refuse:
	return api.Rcpt{}, e
}

func (r *reader) mark() (byte, api.Errno) {
	if r.at == len(r.b) {
		return 0, api.ErrRecordShort
	}
	c := r.b[r.at]
	if !isMark(c) {
		return 0, api.ErrRecordForm
	}
	r.marks = append(r.marks, r.at)
	r.at++
	return c, api.OK
}

// end reads the sum and the last byte. The sum is held against the bytes when all of them have the right form.
func (r *reader) end() api.Errno {
	body := r.b[:r.at]
	var sum uint32
	e := r.fixed("e")
	if e != api.OK {
		goto refuse
	}
	if sum, e = codec.TakeHex(r.b[r.at:]); e != api.OK {
		e = told(e)
		goto refuse
	}
	r.at += sumDigits
	if e = r.fixed("\n"); e != api.OK {
		goto refuse
	}
	if r.at != len(r.b) {
		e = api.ErrRecordForm
		goto refuse
	}
	if sum != sumOf(body, r.marks) {
		e = api.ErrRecordSum
		goto refuse
	}
	return api.OK
refuse:
	return e
}

// sumOf takes each mark as pending, so that a mark can be turned and the sum stays.
func sumOf(body []byte, marks []int) uint32 {
	b := bytes.Clone(body)
	for _, at := range marks {
		b[at] = api.MarkPending
	}
	return codec.Sum(b)
}

// told is what codec answered as this layer's error.
func told(e api.Errno) api.Errno {
	switch e {
	case api.OK:
		return api.OK
	case api.ErrCodecShort:
		return api.ErrRecordShort
	}
	return api.ErrRecordForm
}
