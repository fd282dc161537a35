package mailaddr

// reader goes through a body's tokens: how many of them are read, which addresses were met.
type reader struct {
	tokens []token
	at     int
	found  []spec
}

// specsOf tells the addresses that stand in a body, if it is a list.
func specsOf(body string) ([]spec, bool) {
	tokens, is := cut(body)
	r := reader{tokens: tokens}
	if !is || !r.row(none, r.element) {
		return nil, false
	}
	return r.found, true
}

// next is the token that is read next; where they end, one of no kind.
func (r *reader) next() token {
	if r.at == len(r.tokens) {
		return token{}
	}
	return r.tokens[r.at]
}

// has reads a token, if the next one is of that kind.
func (r *reader) has(kind byte) bool {
	if r.next().kind != kind {
		return false
	}
	r.at++
	return true
}

// row reads items with commas between them, of which some may be missing, up to a token of the kind end.
func (r *reader) row(end byte, item func() bool) bool {
	for r.next().kind != end {
		if r.has(',') {
			continue
		}
		if !item() {
			return false
		}
		if kind := r.next().kind; kind != ',' && kind != end {
			return false
		}
	}
	return true
}

func (r *reader) element() bool {
	from := r.at
	if len(r.phrase()) > 0 && r.has(':') {
		return r.row(';', r.mailbox) && r.has(';')
	}
	r.at = from
	return r.mailbox()
}

func (r *reader) mailbox() bool {
	from := r.at
	name := r.phrase()
	if r.has('<') {
		return (r.next().kind != '@' || r.route()) && r.spec(name) && r.has('>')
	}
	r.at = from
	return r.spec(nil)
}

// phrase reads one, if it stands there, and tells its tokens.
func (r *reader) phrase() []token {
	from := r.at
	for r.next().isWord() || r.at > from && r.next().kind == '.' {
		r.at++
	}
	return r.tokens[from:r.at]
}

func (r *reader) route() bool {
	for r.has('@') && r.domain() {
		if r.has(':') {
			return true
		}
		if !r.has(',') {
			return false
		}
	}
	return false
}

func (r *reader) spec(name []token) bool {
	from := r.at
	if !r.dotted(token.isWord) {
		return false
	}
	local := r.tokens[from:r.at]
	if !r.has('@') {
		return false
	}
	from = r.at
	if !r.domain() {
		return false
	}
	r.found = append(r.found, spec{name, local, r.tokens[from:r.at]})
	return true
}

func (r *reader) domain() bool {
	return r.has(literal) || r.dotted(func(t token) bool { return t.kind == atom })
}

// dotted reads tokens, one at least, with a dot between two.
func (r *reader) dotted(isOne func(t token) bool) bool {
	for isOne(r.next()) {
		r.at++
		if !r.has('.') {
			return true
		}
	}
	return false
}
