package canon

import (
	"bytes"
	"slices"
	"strings"

	"waybill/api"
	"waybill/header"
	"waybill/mailaddr"
)

const lineEnd = "\r\n"

// Names are the fields that have addresses.
func Names() []string {
	return []string{"Bcc", "Cc", "From", "Reply-To", "Resent-Bcc", "Resent-Cc", "Resent-From", "Resent-Reply-To", "Resent-Sender", "Resent-To", "Sender", "To"}
}

// addressed are these names in lower letters.
func addressed() map[string]struct{} {
	names := map[string]struct{}{}
	for _, name := range Names() {
		names[strings.ToLower(name)] = struct{}{}
	}
	return names
}

// Body is a field's body with its addresses called what they are to be called.
func (c *Canon) Body(body string) string {
	l, code := mailaddr.Parse(body)
	if code != api.OK {
		return strings.Clone(body)
	}
	var paths []api.Path
	isOther := false
	for _, a := range l {
		p := c.Path(a.Path)
		isOther = isOther || p != a.Path
		paths = append(paths, p)
	}
	if !isOther { // Replace would write each address in its form
		return strings.Clone(body)
	}
	made, code := mailaddr.Replace(body, paths)
	if code != api.OK {
		return strings.Clone(body)
	}
	return made
}

// Message is a content with the addresses of its header called so.
func (c *Canon) Message(data []byte) []byte {
	fields, _, code := header.Split(data)
	if code != api.OK {
		return bytes.Clone(data)
	}
	var made bytes.Buffer
	names := addressed()
	at := 0
	for _, f := range fields {
		if _, is := names[strings.ToLower(f.Name)]; is { // a field's name has no byte from 128 on
			made.Write(data[at:f.From])
			made.Write(c.field(data[f.From:f.To], f))
			at = f.To
		}
	}
	made.Write(data[at:])
	return made.Bytes()
}

// field is a field's bytes with another body, if that may stand there.
func (c *Canon) field(old []byte, f api.Field) []byte {
	front := len(f.Name) + len(":")
	made := slices.Concat(old[:front], []byte(c.Body(f.Body)), old[front+len(f.Body):])
	if !mayStand(made) {
		return old
	}
	return made
}

// mayStand tells whether a field's lines are no longer than they may be, and have nothing that a content must not have.
func mayStand(field []byte) bool {
	for line := range bytes.SplitSeq(field, []byte(lineEnd)) {
		if len(line) > api.MaxLine || bytes.ContainsAny(line, "\x00\r\n") {
			return false
		}
	}
	return true
}
