package header

// Name tells whether a text may be a field's name.
func Name(s string) bool {
	for i := range len(s) {
		if !isOfName(s[i]) {
			return false
		}
	}
	return s != ""
}

func isOfName(c byte) bool { return '!' <= c && c <= '~' && c != ':' }

// Same tells whether two names are the same.
func Same(a, b string) bool {
	if len(a) != len(b) {
		return false
	}
	for i := range len(a) {
		if lower(a[i]) != lower(b[i]) {
			return false
		}
	}
	return true
}

func lower(c byte) byte {
	if 'A' <= c && c <= 'Z' {
		return c + ('a' - 'A')
	}
	return c
}
