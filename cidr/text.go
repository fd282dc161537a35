package cidr

import (
	"strconv"
	"strings"

	"waybill/api"
)

// longest is how many bytes the longest text of an address has. Longer ones are not cut into pieces: of a great text these would take many times its bytes.
const longest = len("ffff:ffff:ffff:ffff:ffff:ffff:ffff:ffff")

func isSeparator(r rune) bool {
	switch r {
	case ' ', '\t', '\n', '\r', ',':
		return true
	}
	return false
}

func readFour(s string) ([16]byte, bool) {
	if len(s) > longest {
		return [16]byte{}, false
	}
	numbers := strings.Split(s, ".")
	if len(numbers) != 4 {
		return [16]byte{}, false
	}
	var addr [16]byte
	for i, text := range numbers {
		n, is := readNumber(text)
		if !is || n > 255 {
			return [16]byte{}, false
		}
		addr[i] = byte(n)
	}
	return addr, true
}

// readNumber reads 1 to 3 digits, without 0 ahead of others.
func readNumber(s string) (int, bool) {
	if len(s) > 3 || len(s) > 1 && s[0] == '0' {
		return 0, false
	}
	n, e := strconv.ParseUint(s, 10, 16)
	if e != nil {
		return 0, false
	}
	return int(n), true
}

func readSix(s string) ([16]byte, bool) {
	if len(s) > longest {
		return [16]byte{}, false
	}
	head, tail, isShort := strings.Cut(s, "::")
	front, isFront := readGroups(head)
	back, isBack := readGroups(tail)
	size := len(front) + len(back)
	if !isFront || !isBack || isShort && size > 14 || !isShort && size != 16 {
		return [16]byte{}, false
	}
	var addr [16]byte
	copy(addr[:], front)
	copy(addr[16-len(back):], back)
	return addr, true
}

// readGroups reads groups, two bytes of each. A second :: leaves an empty one, which is none.
func readGroups(s string) ([]byte, bool) {
	if s == "" {
		return nil, true
	}
	var b []byte
	for _, text := range strings.Split(s, ":") {
		g, e := strconv.ParseUint(text, 16, 16)
		if e != nil || len(text) > 4 {
			return nil, false
		}
		b = append(b, byte(g>>8), byte(g))
	}
	return b, true
}

func formFour(addr [16]byte) string {
	var numbers []string
	for _, n := range addr[:4] {
		numbers = append(numbers, strconv.Itoa(int(n)))
	}
	return strings.Join(numbers, ".")
}

func formSix(addr [16]byte) string {
	var groups [8]uint64
	for i := range groups {
		groups[i] = uint64(addr[2*i])<<8 | uint64(addr[2*i+1])
	}
	from, to := zeros(groups)
	if from == to {
		return formGroups(groups[:])
	}
	return formGroups(groups[:from]) + "::" + formGroups(groups[to:])
}

// zeros is where the longest row of two or more groups that are 0 stands, the first one of several; if there is none, it has no groups.
func zeros(groups [8]uint64) (int, int) {
	from, to, start := 0, 0, 0
	for i, g := range groups {
		if g != 0 {
			start = i + 1
		} else if i+1-start > max(to-from, 1) {
			from, to = start, i+1
		}
	}
	return from, to
}

func formGroups(groups []uint64) string {
	var texts []string
	for _, g := range groups {
		texts = append(texts, strconv.FormatUint(g, 16))
	}
	return strings.Join(texts, ":")
}

// formBits is what stands behind an address's form: of an address nothing.
func formBits(n api.Net) string {
	if n.Bits == mostBits(n.Six) {
		return ""
	}
	return "/" + strconv.Itoa(n.Bits)
}
