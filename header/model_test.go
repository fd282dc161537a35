package header_test

import (
	"regexp"
	"slices"
	"strings"

	"waybill/api"
)

// The model is the chapter's words over whole lines, by patterns.
var (
	fieldFront   = regexp.MustCompile(`\A[!-9;-~]+:`)
	wholeName    = regexp.MustCompile(`\A[!-9;-~]+\z`)
	foldedEnd    = regexp.MustCompile(`\r\n([ \t])`)
	blankRow     = regexp.MustCompile(`[ \t]+`)
	refusedBytes = regexp.MustCompile(`[\x00-\x08\x0a-\x1f\x7f]`)
)

// modelSplit goes through the lines, and puts a field together of each that begins one and those that continue it.
func modelSplit(data string) ([]api.Field, int, api.Errno) {
	lines := strings.SplitAfter(data, "\r\n")
	var groups [][]string
	body := len(data)
	at := 0
	for _, line := range lines {
		if fieldFront.MatchString(line) {
			groups = append(groups, []string{line})
		} else if n := len(groups); n > 0 && line != "" && strings.Contains(" \t", line[:1]) {
			groups[n-1] = append(groups[n-1], line)
		} else {
			body = at
			if line == "\r\n" {
				body += 2
			}
			break
		}
		at += len(line)
	}
	if at > 65536 {
		return nil, 0, api.ErrHeaderLong
	}
	if len(groups) > 1000 {
		return nil, 0, api.ErrHeaderMany
	}
	var l []api.Field
	at = 0
	for _, group := range groups {
		whole := strings.Join(group, "")
		name, rest, _ := strings.Cut(whole, ":")
		if strings.HasSuffix(group[len(group)-1], "\r\n") {
			rest = rest[:len(rest)-2]
		}
		l = append(l, api.Field{Name: name, Body: rest, From: at, To: at + len(whole)})
		at += len(whole)
	}
	return l, body, api.OK
}

func modelUnfold(body string) string {
	s := foldedEnd.ReplaceAllString(body, "$1")
	for s != "" && strings.Contains(" \t\r\n", s[:1]) {
		s = s[1:]
	}
	for s != "" && strings.Contains(" \t\r\n", s[len(s)-1:]) {
		s = s[:len(s)-1]
	}
	return s
}

func modelWords(text string) []string {
	return slices.DeleteFunc(blankRow.Split(text, -1), func(s string) bool { return s == "" })
}

// modelFold fills lines of which the first one has some bytes ahead.
func modelFold(text string, column int) string {
	words := modelWords(text)
	if len(words) == 0 {
		return ""
	}
	ahead := strings.Repeat("-", min(max(column, 0), 78))
	lines := []string{ahead + words[0]}
	for _, word := range words[1:] {
		last := len(lines) - 1
		if longer := lines[last] + " " + word; len(longer) <= 78 {
			lines[last] = longer
		} else {
			lines = append(lines, " "+word)
		}
	}
	return strings.Join(lines, "\r\n")[len(ahead):]
}

func modelWrite(name, body string) (string, api.Errno) {
	if !wholeName.MatchString(name) || refusedBytes.MatchString(body) {
		return "", api.ErrHeaderForm
	}
	text := name + ": " + modelFold(body, len(name)+2) + "\r\n"
	for _, line := range strings.Split(text, "\r\n") {
		if len(line) > 998 {
			return "", api.ErrHeaderLong
		}
	}
	return text, api.OK
}
