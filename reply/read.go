package reply

import (
	"bytes"
	"strings"

	"waybill/api"
)

func Read(b []byte) (api.Reply, int, api.Errno) {
	var r api.Reply
	size := 0
	for {
		line, e := cutLine(b[size:])
		if e != api.OK {
			return api.Reply{}, 0, e
		}
		p, is := readLine(line)
		if !is || len(r.Lines) > 0 && p.code != r.Code {
			return api.Reply{}, 0, api.ErrReplyForm
		}
		if len(r.Lines) == api.MaxReplyLines {
			return api.Reply{}, 0, api.ErrReplyLong
		}
		r.Code = p.code
		r.Lines = append(r.Lines, p.text)
		size += len(line)
		if p.mark == last {
			return r, size, api.OK
		}
	}
}

// cutLine is the bytes up to the first 10, that too.
func cutLine(b []byte) (line string, e api.Errno) {
	near := b[:min(len(b), api.MaxReplyLine)]
	if i := bytes.IndexByte(near, '\n'); i >= 0 {
		return string(near[:i+1]), api.OK
	}
	if len(near) == api.MaxReplyLine {
		return "", api.ErrReplyLong
	}
	return "", api.ErrReplyShort
}

// part is what one line says.
type part struct {
	code int
	mark byte
	text string
}

func readLine(line string) (p part, is bool) {
	said, ended := strings.CutSuffix(line, end)
	if !ended || len(said) < codeSize {
		return part{}, false
	}
	code, isNumber := digits(said[:codeSize])
	rest := said[codeSize:]
	if rest == "" {
		rest = string(last)
	}
	p = part{code, rest[0], rest[1:]}
	return p, isNumber && isCode(code) && (p.mark == more || p.mark == last) && isText(p.text)
}

// digits is the number of a few digits.
func digits(s string) (n int, is bool) {
	for _, c := range s {
		if c < '0' || c > '9' {
			return 0, false
		}
		n = 10*n + int(c-'0')
	}
	return n, true
}
