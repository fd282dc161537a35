package reply

import "strings"

// Status is the three numbers with which a line begins, if it does.
func Status(line string) (int, int, int, bool) {
	status, _, _ := strings.Cut(line, " ")
	class, rest, _ := strings.Cut(status, ".")
	subject, detail, _ := strings.Cut(rest, ".") // a third dot is left in the detail, which is no number then
	a, isClass := number(class)
	b, isSubject := number(subject)
	c, isDetail := number(detail)
	if !isClass || !isSubject || !isDetail || a != 2 && a != 4 && a != 5 {
		return 0, 0, 0, false
	}
	return a, b, c, true
}

// number is that of one to three digits, without a 0 ahead of others.
func number(s string) (n int, is bool) {
	if s == "" || len(s) > 3 || len(s) > 1 && s[0] == '0' {
		return 0, false
	}
	return digits(s)
}
