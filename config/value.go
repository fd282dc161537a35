package config

import (
	"slices"
	"strconv"
	"strings"

	"waybill/api"
	"waybill/cidr"
)

const (
	small  = "abcdefghijklmnopqrstuvwxyz"
	great  = "ABCDEFGHIJKLMNOPQRSTUVWXYZ"
	digits = "0123456789"

	mostLabel  = 63
	mostTable  = 32
	mostDigits = 10
)

func isSeparator(r rune) bool { return r == ' ' || r == '\t' || r == ',' }

// isOf tells whether a text is 1 to that many bytes, each of those.
func isOf(s string, most int, those string) bool {
	return s != "" && len(s) <= most && strings.Trim(s, those) == ""
}

func readNumber(s string) (int, bool) {
	if !isOf(s, mostDigits, digits) || len(s) > 1 && s[0] == '0' {
		return 0, false
	}
	n, e := strconv.Atoi(s)
	return n, e == nil
}

// formsOf are the forms of texts, in a list of their own; false, if one of them has none.
func formsOf(l []string, formOf func(s string) (string, bool)) ([]string, bool) {
	var forms []string
	for _, s := range l {
		form, is := formOf(s)
		if !is {
			return nil, false
		}
		forms = append(forms, form)
	}
	return forms, true
}

func areUnlike(l []string) bool {
	for i, s := range l {
		if slices.Contains(l[:i], s) {
			return false
		}
	}
	return true
}

func localForm(s string) (string, bool) {
	return s, isOf(s, api.MaxLocal, small+digits+"-_")
}

func tableForm(s string) (string, bool) {
	return s, isOf(s, mostTable, small+digits+"-_")
}

func domainForm(s string) (string, bool) {
	if len(s) > api.MaxDomain {
		return "", false
	}
	for label := range strings.SplitSeq(s, ".") {
		if !isOf(label, mostLabel, small+great+digits+"-") || label[0] == '-' || label[len(label)-1] == '-' {
			return "", false
		}
	}
	return strings.ToLower(s), true
}

func relayForm(s string) (string, bool) {
	switch {
	case s == "":
		return "", true
	case s[0] == '[':
		return bracketForm(s)
	}
	return domainForm(s)
}

// bracketForm is the form of an address in brackets; s begins with one.
func bracketForm(s string) (string, bool) {
	inner, isClosed := strings.CutSuffix(s[1:], "]")
	n, code := cidr.Addr(inner)
	if !isClosed || code != api.OK {
		return "", false
	}
	form, _ := cidr.Show(n)
	return "[" + form + "]", true
}
