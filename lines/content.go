package lines

import (
	"bytes"

	"waybill/api"
)

// Content tells whether bytes may be a message's content.
func Content(data []byte) api.Errno {
	if has(data, 0) {
		return api.ErrLineNul
	}
	long := false
	for whole := range bytes.Lines(data) {
		line, ended := bytes.CutSuffix(whole, []byte(lineEnd))
		if !ended || has(line, '\r') {
			return api.ErrLineBare
		}
		long = long || len(line) > api.MaxLine
	}
	if long { // not told at once, as a later line may be bare, which is told first
		return api.ErrLineLong
	}
	return api.OK
}

// Stuff is a content as it is sent, with the end line; Dotted a line that was sent, as content (true: it is the end line).
func Stuff(data []byte) ([]byte, api.Errno) {
	if e := Content(data); e != api.OK {
		return nil, e
	}
	var sent []byte
	for line := range bytes.Lines(data) {
		if line[0] == '.' {
			sent = append(sent, '.')
		}
		sent = append(sent, line...)
	}
	return append(sent, "."+lineEnd...), api.OK
}

func Dotted(line []byte) ([]byte, bool) {
	rest, dotted := bytes.CutPrefix(line, []byte("."))
	if dotted && len(rest) == 0 {
		return nil, true
	}
	return bytes.Clone(rest), false
}
