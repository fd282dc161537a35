package header_test

import (
	"strings"
	"testing"

	"waybill/api"
	"waybill/header"
)

// TestP11_Examples: the chapter's examples.
func TestP11_Examples(t *testing.T) {
	const data = "A: x\r\n y\r\nReceived:z\r\n\r\nB: w\r\n"
	splits(t, data, 24, field("A", " x\r\n y", 0, 10), field("Received", "z", 10, 22))
	l, _, _ := header.Split([]byte(data))
	unfolds(t, l[0].Body, "x y")
	if n := header.Hops(l); n != 1 {
		t.Error(n)
	}
	noFields(t, "no field\r\n", 0)
	noFields(t, "", 0)
	writes(t, "To", "a  b", "To: a b\r\n")
	noWrite(t, api.ErrHeaderForm, "T o", "")
	noWrite(t, api.ErrHeaderForm, "To", "\n")
	folds(t, strings.Repeat("x", 40)+" "+strings.Repeat("y", 40), 0, strings.Repeat("x", 40)+"\r\n "+strings.Repeat("y", 40))
}

// TestP11_2Body: where the body begins, whatever ends the header.
func TestP11_2Body(t *testing.T) {
	a := field("a", "b", 0, 5)
	splits(t, "a:b\r\n", 5, a)
	splits(t, "a:b", 3, field("a", "b", 0, 3))
	splits(t, "a:b\r\n\r\n", 7, a)
	splits(t, "a:b\r\n\r\n\r\n", 7, a)
	splits(t, "a:b\r\n\r\nc:d\r\n", 7, a)
	splits(t, "a:b\r\n\r\n c\r\n", 7, a)
	splits(t, "a:b\r\n\r\n\r\nc:d", 7, a)
	splits(t, "a:b\r\nno\r\n", 5, a)
	splits(t, "a:b\r\nno", 5, a)
	splits(t, "a:b\r\nno\r\n\r\nc:d\r\n", 5, a)
	splits(t, "a:b\r\nno c:d\r\n", 5, a)
	splits(t, "a:b\r\n:c\r\n", 5, a)
	splits(t, "a:b\r\nc :d\r\n", 5, a)
	splits(t, "a:b\r\nc\t:d\r\n", 5, a)
	splits(t, "a:b\r\nc", 5, a)
	splits(t, "a:b\r\n\r", 5, a)
	splits(t, "a:b\r\n\n", 5, a)
	splits(t, "a:b\r\n\n\r\n", 5, a)
	splits(t, "a:b\r\n\r\r\n", 5, a)
	splits(t, "a:b\r\n\rc:d", 5, a)
	splits(t, "a:b\r\n\x00c:d", 5, a)
	splits(t, "a:b\r\n\x80:d", 5, a)
}

// TestP11_2None: contents whose first line begins no field.
func TestP11_2None(t *testing.T) {
	for _, data := range []string{
		"no", "no\r\n", "no\r\na:b\r\n", " a:b\r\n", "\ta:b\r\n", " \r\na:b", " ", "\t\r\n\r\n", ":", ":\r\n", ":x\r\n", "::", "a b:x\r\n", "a :x", "a\t:x", "\r", "\n", "\n\r", "\n\r\n", "\r\r\n", "\rx\r\n", "\na:b", "\ra:b",
		"a\r\n:b", "a\r\n b:c", "a\n:b", "a\r:b", "\x7f:b", "\xe9:b", "a\x00:b", "a", strings.Repeat("a", 100000), strings.Repeat(" ", 100000), strings.Repeat("\r", 70000) + "\n",
	} {
		noFields(t, data, 0)
	}
	for _, data := range []string{"\r\n", "\r\na:b", "\r\n\r\n", "\r\n a", "\r\n\n", "\r\n\r"} {
		noFields(t, data, 2)
	}
}

// TestP11_2Name: each byte in a name that stands ahead of a field's `:`.
func TestP11_2Name(t *testing.T) {
	eachByte(func(c byte, s string) {
		for _, front := range []string{"", "a"} {
			for _, back := range []string{"", "b"} {
				name := front + s + back
				data := "n:m\r\n" + name + ":x\r\n"
				n := field("n", "m", 0, 5)
				switch {
				case isOneOf(c, ofNames):
					splits(t, name+":x\r\n", len(name)+4, field(name, "x", 0, len(name)+4))
					splits(t, data, len(data), n, field(name, "x", 5, len(data)))
				case c == ':' && front == "a":
					splits(t, name+":x\r\n", len(name)+4, field("a", back+":x", 0, len(name)+4))
				case isOneOf(c, " \t") && front == "":
					noFields(t, name+":x\r\n", 0)
					splits(t, data, len(data), field("n", "m\r\n"+name+":x", 0, len(data)))
				default:
					noFields(t, name+":x\r\n", 0)
					splits(t, data, 5, n)
				}
			}
		}
	})
}

// TestP11_2Field: a field's body is all that stands behind its `:`, whatever it is.
func TestP11_2Field(t *testing.T) {
	for _, body := range []string{"", " ", "\t ", " b", "b ", ":", "b:c", "::", ": :", "\n", "b\nc", "\r", "\rb", "\r\r", "\n\r", "b\n\rc", "\n\n", "\x00", "\x7f\x80\xff", "\u00e9", "\na:b", "\n b", "\r b", xs(5000), strings.Repeat("\r", 5000), strings.Repeat("\n", 5000)} {
		size := len(body) + 2
		splits(t, "a:"+body+"\r\n", size+2, field("a", body, 0, size+2))
		splits(t, "a:"+body, size, field("a", body, 0, size))
		splits(t, "a:"+body+"\r\nc:\r\n", size+6, field("a", body, 0, size+2), field("c", "", size+2, size+6))
		splits(t, "a:"+body+"\r\nc:", size+4, field("a", body, 0, size+2), field("c", "", size+2, size+4))
		splits(t, "a:"+body+"\r\n\r\n", size+4, field("a", body, 0, size+2))
		splits(t, "a:"+body+"\r\n "+body+"\r\n", 2*size+3, field("a", body+"\r\n "+body, 0, 2*size+3))
		splits(t, "a:"+body+"\r\n\t"+body, 2*size+1, field("a", body+"\r\n\t"+body, 0, 2*size+1))
	}
	eachByte(func(c byte, s string) {
		splits(t, "a:"+s+"\r\nb:c", 8, field("a", s, 0, 5), field("b", "c", 5, 8))
		splits(t, "a:"+s, 3, field("a", s, 0, 3))
		splits(t, "a:x"+s+"y\r\n", 7, field("a", "x"+s+"y", 0, 7))
	})
}

// TestP11_2Ends: 13 and 10 that stand otherwise end no line.
func TestP11_2Ends(t *testing.T) {
	splits(t, "a:b\r\r\n", 6, field("a", "b\r", 0, 6))
	splits(t, "a:b\r\r\nc:d", 9, field("a", "b\r", 0, 6), field("c", "d", 6, 9))
	splits(t, "a:b\n\r\n", 6, field("a", "b\n", 0, 6))
	splits(t, "a:b\n\r\nc:d", 9, field("a", "b\n", 0, 6), field("c", "d", 6, 9))
	splits(t, "a:b\n\rc:d\r\n", 10, field("a", "b\n\rc:d", 0, 10))
	splits(t, "a:b\nc:d\r\n", 9, field("a", "b\nc:d", 0, 9))
	splits(t, "a:b\rc:d\r\n", 9, field("a", "b\rc:d", 0, 9))
	splits(t, "a:b\n\n", 5, field("a", "b\n\n", 0, 5))
	splits(t, "a:b\r", 4, field("a", "b\r", 0, 4))
	splits(t, "a:b\n", 4, field("a", "b\n", 0, 4))
	splits(t, "a:b\r\n \r", 7, field("a", "b\r\n \r", 0, 7))
	splits(t, "a:b\r\n \n", 7, field("a", "b\r\n \n", 0, 7))
	splits(t, "a:b\n c\r\nd:e\r\n", 13, field("a", "b\n c", 0, 8), field("d", "e", 8, 13))
	splits(t, "a:\r\n\n b\r\n", 4, field("a", "", 0, 4))
	splits(t, "a:\r\n\r b\r\n", 4, field("a", "", 0, 4))
	splits(t, "a:\r\r\n b", 7, field("a", "\r\r\n b", 0, 7))
	splits(t, "a:\r\n\r\n b", 6, field("a", "", 0, 4))
}

// TestP11_2Continue: fields that go on over several lines.
func TestP11_2Continue(t *testing.T) {
	for _, line := range []string{" ", "\t", "  ", " \t ", " b", "\tb:c", " :", "\t\x00", " \r", "\t\n", " b\r\r", " \xff"} {
		for n := 1; n < 4; n++ {
			on := strings.Repeat("\r\n"+line, n)
			size := len(on) + 2
			splits(t, "a:"+on, size, field("a", on, 0, size))
			splits(t, "a:"+on+"\r\n", size+2, field("a", on, 0, size+2))
			splits(t, "a:"+on+"\r\n\r\n", size+4, field("a", on, 0, size+2))
			splits(t, "a:"+on+"\r\nx\r\n", size+2, field("a", on, 0, size+2))
			splits(t, "a:"+on+"\r\nb:x"+on+"\r\n", 2*size+5, field("a", on, 0, size+2), field("b", "x"+on, size+2, 2*size+5))
			splits(t, "a:x\r\nb:"+on, 5+size, field("a", "x", 0, 5), field("b", on, 5, 5+size))
		}
	}
	eachByte(func(c byte, s string) {
		data := "a:b\r\n" + s + "c\r\n"
		if isOneOf(c, " \t") {
			splits(t, data, 9, field("a", "b\r\n"+s+"c", 0, 9))
		} else {
			splits(t, data, 5, field("a", "b", 0, 5))
		}
	})
}

// TestP11_2Order: fields in their order, with names of which several are the same, and those that are hardly any.
func TestP11_2Order(t *testing.T) {
	var want []api.Field
	data := ""
	for _, name := range []string{"z", "A", "a", "A", "Received", "!", "~", "\"", "-", "(x)", "RECEIVED", "9", "a.b@c", ";"} {
		from := len(data)
		data += name + ": " + name + "\r\n"
		want = append(want, field(name, " "+name, from, len(data)))
	}
	splits(t, data, len(data), want...)
	splits(t, data+"\r\nz: y\r\n", len(data)+2, want...)
	splits(t, data+"z y\r\n", len(data), want...)
}
