package reply_test

import (
	"regexp"
	"strconv"
	"strings"

	"waybill/api"
)

var (
	codeForm   = regexp.MustCompile(`^[2-5][0-5][0-9]$`)
	textForm   = regexp.MustCompile(`^[\t\x20-\x7e]*$`)
	lineForm   = regexp.MustCompile(`^([2-5][0-5][0-9])(?:([- ])([\t\x20-\x7e]*))?\r\n$`)
	statusForm = regexp.MustCompile(`^([245])\.(0|[1-9][0-9]{0,2})\.(0|[1-9][0-9]{0,2})(?: (?s:.*))?$`)
)

func modelRight(r api.Reply) bool {
	if !codeForm.MatchString(strconv.Itoa(r.Code)) || len(r.Lines) < 1 || len(r.Lines) > 50 {
		return false
	}
	for _, text := range r.Lines {
		if len(text) > 506 || !textForm.MatchString(text) {
			return false
		}
	}
	return true
}

// modelPrint is the bytes of a right reply.
func modelPrint(r api.Reply) string {
	lead := "\r\n" + strconv.Itoa(r.Code)
	last := len(r.Lines) - 1
	s := ""
	for _, text := range r.Lines[:last] {
		s += lead + "-" + text
	}
	return (s + lead + " " + r.Lines[last] + "\r\n")[2:]
}

// modelRead is what bytes are read as.
func modelRead(s string) (r api.Reply, size int, e api.Errno) {
	rest := s
	for count := 1; ; count++ {
		i := strings.Index(rest, "\n")
		switch {
		case (i < 0 || i > 511) && len(rest) > 511:
			return api.Reply{}, 0, api.ErrReplyLong
		case i < 0:
			return api.Reply{}, 0, api.ErrReplyShort
		}
		l := lineForm.FindStringSubmatch(rest[:i+1])
		if l == nil || count > 1 && l[1] != s[:3] {
			return api.Reply{}, 0, api.ErrReplyForm
		}
		if count == 51 {
			return api.Reply{}, 0, api.ErrReplyLong
		}
		r.Lines = append(r.Lines, l[3])
		rest = rest[i+1:]
		if l[2] != "-" {
			r.Code, _ = strconv.Atoi(s[:3])
			return r, len(s) - len(rest), api.OK
		}
	}
}

func modelStatus(s string) status {
	l := statusForm.FindStringSubmatch(s)
	if l == nil {
		return status{}
	}
	var n [3]int
	for i := range n {
		n[i], _ = strconv.Atoi(l[i+1])
	}
	return status{n[0], n[1], n[2], true}
}
