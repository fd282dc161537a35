package lines_test

import (
	"strings"

	"waybill/api"
)

// modelLines is the chapter's words over a whole stream: its lines, and what behind the last one is none.
func modelLines(stream string, most int) ([]told, string) {
	pieces := strings.Split(stream, "\n")
	last := len(pieces) - 1
	var l []told
	for _, piece := range pieces[:last] {
		line, ended := strings.CutSuffix(piece, "\r")
		x := told{line, api.OK}
		if !ended || strings.Contains(line, "\r") {
			x.e = api.ErrLineBare
		}
		if strings.Contains(line, "\x00") {
			x.e = api.ErrLineNul
		}
		if len(line) > most {
			x = told{line[:most], api.ErrLineLong}
		}
		l = append(l, x)
	}
	return l, pieces[last]
}

// modelContent asks of each byte what may stand about it.
func modelContent(data string) api.Errno {
	if strings.Contains(data, "\x00") {
		return api.ErrLineNul
	}
	for i := range len(data) {
		if data[i] == '\r' && !strings.HasPrefix(data[i+1:], "\n") {
			return api.ErrLineBare
		}
		if data[i] == '\n' && !strings.HasSuffix(data[:i], "\r") {
			return api.ErrLineBare
		}
	}
	if data != "" && !strings.HasSuffix(data, "\r\n") {
		return api.ErrLineBare
	}
	for _, line := range strings.Split(data, "\r\n") {
		if len(line) > 998 {
			return api.ErrLineLong
		}
	}
	return api.OK
}

func modelStuff(data string) string {
	return strings.ReplaceAll("\r\n"+data, "\r\n.", "\r\n..")[2:] + ".\r\n"
}

func modelDotted(line string) (string, bool) {
	if line == "." {
		return "", true
	}
	return strings.TrimPrefix(line, "."), false
}
