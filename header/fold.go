package header

import "strings"

// maxFolded is how many bytes a line has at the most, if its words are short enough.
const maxFolded = 78

// Unfold is a body in one line.
func Unfold(body string) string {
	body = strings.ReplaceAll(body, lineEnd+" ", " ")
	body = strings.ReplaceAll(body, lineEnd+"\t", "\t")
	return strings.Clone(strings.Trim(body, " \t\r\n"))
}

// Fold is a body in several lines.
func Fold(body string, column int) string {
	var b strings.Builder
	size := min(max(column, 0), maxFolded)
	for i, word := range strings.FieldsFunc(body, isBlank) {
		if i > 0 {
			if size+1+len(word) > maxFolded {
				b.WriteString(lineEnd)
				size = 0
			}
			b.WriteByte(' ')
			size++
		}
		b.WriteString(word)
		size += len(word)
	}
	return b.String()
}

func isBlank(r rune) bool { return r == ' ' || r == '\t' }
