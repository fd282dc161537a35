package canon_test

import (
	"strings"
	"testing"

	"waybill/canon"
	"waybill/header"
)

// others are names that are nearly, but not, of fields with addresses.
var others = []string{"Subject", "T", "Tos", "To-", "-To", "X-To", "Too", "T0", "Bc", "Bccc", "B-cc", "C", "Ccc", "Fro", "Froms", "Reply", "ReplyTo", "Reply_To", "Reply-", "Reply-T", "Reply-To-", "Replyto", "Resent", "Resent-", "Resent-Date", "ResentTo", "Resent-Message-ID", "Resent-Resent-To", "Resent-Reply", "Senders", "Sende", "Send", "Return-Path", "Delivered-To", "Errors-To", "Apparently-To", "In-Reply-To", "Mail-Followup-To", "Disposition-Notification-To", "Received", "Message-ID", "Date", "!", "~", "To\"", "'To'", "\"To\""}

func TestP15_4Examples(t *testing.T) {
	turns(t, made(t, host, given), lined("To: a@x.example", "Subject: a@x.example"), lined("To: b@y.example", "Subject: a@x.example"))
}

// letters are a name in letters of either kind.
func letters(name string) []string {
	odd := []byte(strings.ToUpper(name))
	for i := 0; i < len(odd); i += 2 {
		odd[i] = lowered(string(odd))[i]
	}
	return []string{name, strings.ToLower(name), strings.ToUpper(name), string(odd)}
}

// TestP15_4Names: each field with addresses, wherever it stands and however it is written, and no other one.
func TestP15_4Names(t *testing.T) {
	c := made(t, host, given)
	for _, whole := range twelve {
		for _, name := range letters(whole) {
			old, other := name+": a@x.example", name+": b@y.example"
			turns(t, c, old, other)
			turns(t, c, lined(old), lined(other))
			turns(t, c, lined(old, "S: a@x.example", "", "a@x.example"), lined(other, "S: a@x.example", "", "a@x.example"))
			turns(t, c, lined("S: a@x.example", old, "X: y"), lined("S: a@x.example", other, "X: y"))
			turns(t, c, lined("S: a@x.example", " "+old, old), lined("S: a@x.example", " "+old, other))
			turns(t, c, lined(old, "S:", old, old), lined(other, "S:", other, other))
			turns(t, c, lined(name+":a@x.example, c@old.example"), lined(name+":b@y.example, c@new.example"))
		}
	}
	for _, whole := range others {
		for _, name := range letters(whole) {
			leaves(t, c, name+": a@x.example", lined(name+": a@x.example"))
			turns(t, c, lined(name+": a@x.example", "to:a@x.example", name+":a@x.example"), lined(name+": a@x.example", "to:b@y.example", name+":a@x.example"))
		}
	}
}

// TestP15_4NameBytes: names with a byte more, and with another one.
func TestP15_4NameBytes(t *testing.T) {
	c := made(t, host, given)
	eachByte(func(c1 byte, s string) {
		for _, name := range []string{s + "To", "T" + s + "o", "To" + s, s + "o", "T" + s, s + "c", "C" + s} {
			text := name + ":a@x.example\r\n"
			l, _, _ := header.Split([]byte(text))
			if len(l) == 1 && ofAddresses.MatchString(l[0].Name) && strings.HasSuffix(l[0].Body, "a@x.example") && !strings.Contains(l[0].Body, ":") {
				turns(t, c, text, name+":b@y.example\r\n")
			} else {
				leaves(t, c, text)
			}
		}
	})
}

// TestP15_4NoFields: what has no header, or none that can be split.
func TestP15_4NoFields(t *testing.T) {
	c := made(t, host, given)
	const to = "To: a@x.example\r\n"
	leaves(t, c, "", "a", "a@x.example", "\r\n", "\r\n"+to, "no field\r\n"+to, " "+to, "\t"+to, "\n"+to, "\r"+to, ":"+to, "To a@x.example\r\n", "To\r\n :a@x.example\r\n", "To\r\n", "To", "To:", "To:\r\n", "To:\r\n\r\n"+to, "\x00", "\x00"+to)
	leaves(t, c, "To : a@x.example\r\n", "To\t:a@x.example\r\n", " To:a@x.example\r\n", "T o:a@x.example\r\n", "To\u00e9:a@x.example\r\n", "\u017fender: a@x.example\r\n")
	leaves(t, c, strings.Repeat(to, 1001), to+strings.Repeat("a:b\r\n", 1000), strings.Repeat("a:b\r\n", 1000)+to)
	leaves(t, c, to+"a:"+xs(65536)+"\r\n", to+"a:"+xs(65536-len(to)-3)+"\r\n", to+strings.Repeat("a: "+xs(900)+"\r\n", 80))
	for _, data := range []string{strings.Repeat(to, 1000), strings.Repeat(to, 500) + strings.Repeat("a:b\r\n", 500), to + "a:" + xs(65536-len(to)-4) + "\r\n"} {
		turns(t, c, data, strings.ReplaceAll(data, "a@x", "b@y"))
		turns(t, c, data+"\r\nx", strings.ReplaceAll(data, "a@x", "b@y")+"\r\nx")
	}
	turns(t, c, to+"a:"+xs(65536-len(to)-2), "To: b@y.example\r\na:"+xs(65536-len(to)-2))
}

// TestP15_4Bodies: what stands behind the header stays, whatever it is.
func TestP15_4Bodies(t *testing.T) {
	c := made(t, host, given)
	for _, head := range [][2]string{{"", ""}, {"To: a@x.example\r\n", "To: b@y.example\r\n"}, {"S: a@x.example\r\ncC:\ta@x.example\r\n", "S: a@x.example\r\ncC:\tb@y.example\r\n"}} {
		for _, body := range []string{"", "\r\n", "\r\na@x.example", "\r\nTo: a@x.example\r\n", "a@x.example\r\n", "\r\n\r\nTo: a@x.example", "no field\r\nTo: a@x.example\r\n", "\r\n\x00\r\n\r\n\n", "\n", "\r", "\x00", "\r\n" + strings.Repeat("a@x.example ", 10000), "\r\n" + xs(2000), "\r\n.\r\n", "To\r\n", "To"} {
			turns(t, c, head[0]+body, head[1]+body)
		}
	}
	great := strings.Repeat("To: a@x.example\r\n", 1<<20/16)
	turns(t, c, "To: a@x.example\r\n\r\n"+great, "To: b@y.example\r\n\r\n"+great)
}

// TestP15_4Ends: the end of a field is what it was, also where there is none.
func TestP15_4Ends(t *testing.T) {
	c := made(t, host, given)
	for _, blank := range []string{"", " ", "\t", "  ", " \t ", "\r\n ", " \r\n\t", "(x)", "\r\n (x)\r\n ", "\r\n \r\n "} {
		for _, behind := range []string{"", " ", "\t", " (x)", "\r\n (x)", "\r\n ", ",", "\r\n\t,", " \r\n ,\r\n "} {
			for _, end := range []string{"", "\r\n", "\r\n\r\n", "\r\n\r\nx", "\r\nB: w\r\n"} {
				turns(t, c, "To:"+blank+"a@x.example"+behind+end, "To:"+blank+"b@y.example"+behind+end)
				turns(t, c, "S: x\r\nFROM:"+blank+"<a@x.example>"+behind+end, "S: x\r\nFROM:"+blank+"<b@y.example>"+behind+end)
				leaves(t, c, "To:"+blank+"c@x.example"+behind+end, "To:"+blank+"J a@x.example"+behind+end)
			}
		}
	}
}

// TestP15_4Folded: bodies in several lines, with addresses in each of them and over their ends.
func TestP15_4Folded(t *testing.T) {
	c := made(t, host, given)
	turns(t, c, lined("To: J <a@x.example>,", "\tK <c@old.example>,", "  p@z", "Cc:", " a@x.example", "S: x", " a@x.example"), lined("To: J <b@y.example>,", "\tK <c@new.example>,", "  p@z", "Cc:", " b@y.example", "S: x", " a@x.example"))
	turns(t, c, lined("To: g:", " a@x.example,", " (a@x.example)", " ;"), lined("To: g:", " b@y.example,", " (a@x.example)", " ;"))
	turns(t, c, lined("To: a@", " x.example"), lined("To: b@y.example"))
	turns(t, c, lined("To: a", " @", "\tx", " . example,p@z", "S: x"), lined("To: b@y.example,p@z", "S: x"))
	turns(t, c, lined("To: \"c", " d\"@old.example"), lined(`To: "c d"@new.example`))
	turns(t, c, lined("To: \"J", " K\" <c (x", " y) @ old.example>"), lined("To: \"J", " K\" <c@new.example>"))
	leaves(t, c, lined("To: c@", " x.example"), lined("To: a@x.example", " q@z"), lined("To: (a@x.example", "B: c)"))
}

// lengthy is a table that makes `l@x` more bytes, and `l.l.l.l@shorter.example` less.
const lengthy = "l@x l.l.l.l@longer.example\nl.l.l.l@shorter.example l@x\n"

// TestP15_4LongLines: a field stays, if one of its lines would come to have more than 998 bytes, whichever it is.
func TestP15_4LongLines(t *testing.T) {
	c := made(t, host, lengthy)
	const old, other = "l@x", "l.l.l.l@longer.example"
	for _, name := range []string{"To", "Resent-Reply-To"} {
		for size := 990; size <= 1010; size++ {
			first := name + ":(" + xs(size-len(name+":()")-len(other)) + ")"
			further := " (" + xs(size-len(" (),")-len(other)) + "),"
			for _, way := range [][2]string{{first, ""}, {name + ":" + "\r\n" + further, ""}, {name + ": p@z,\r\n" + further, "\r\n ,q@z"}, {first, "\r\n\t,q@z"}} {
				for _, end := range []string{"", "\r\n", "\r\nS: x\r\n", "\r\n\r\nx"} {
					if size <= 998 {
						turns(t, c, way[0]+old+way[1]+end, way[0]+other+way[1]+end)
					} else {
						leaves(t, c, way[0]+old+way[1]+end)
					}
				}
			}
		}
	}
}

// TestP15_4LongAlready: what counts is how long the lines would come to be, wherever the address stands.
func TestP15_4LongAlready(t *testing.T) {
	c := made(t, host, lengthy, given)
	long, fits := "("+xs(997)+")", " ("+xs(995)+")"
	leaves(t, c, lined("To: "+long+"a@x.example"), lined("To: a@x.example,", " "+long), lined("To: "+long, " a@x.example"), lined("To:", " "+long, " a@x.example"), "To: a@x.example\r\n "+long, lined("To:", fits+"a@x.example"))
	turns(t, c, lined("To:", fits, " a@x.example"), lined("To:", fits, " b@y.example"))
	turns(t, c, lined("To: a@x.example", fits), lined("To: b@y.example", fits))
	turns(t, c, lined("Cc: "+long+"a@x.example", "To: a@x.example", "S: "+long), lined("Cc: "+long+"a@x.example", "To: b@y.example", "S: "+long))
	const old, other = "l.l.l.l@shorter.example", "l@x"
	for size := 990; size <= 1020; size++ { // it gets shorter
		front := "To:(" + xs(size-len("To:()")-len(old)) + ")"
		if size+len(other)-len(old) <= 998 {
			turns(t, c, lined(front+old), lined(front+other))
		} else {
			leaves(t, c, lined(front+old))
		}
	}
	for _, n := range []int{90, 91} { // 11 bytes each, with the comma
		line := "From: " + strings.Repeat("c@old.exam,", n)
		turns(t, made(t, host, "@old.exam @y"), lined(line), lined("From: "+strings.Repeat("c@y,", n)))
	}
}

// TestP15_4LongHeader: a header may get longer than one that can be split.
func TestP15_4LongHeader(t *testing.T) {
	c := made(t, host, lengthy)
	rest := "a:" + xs(65536-len("To: l@x\r\na:\r\n")) + "\r\n"
	turns(t, c, "To: l@x\r\n"+rest+"\r\nx", "To: l.l.l.l@longer.example\r\n"+rest+"\r\nx")
	turns(t, c, strings.Repeat("To: l@x\r\n", 1000), strings.Repeat("To: l.l.l.l@longer.example\r\n", 1000))
}

// TestP15_4Bytes: a field stays, if it would have a byte 0, or a 13 or 10 that is no line's end; one in which these go with an address does not.
func TestP15_4Bytes(t *testing.T) {
	c := made(t, host, given)
	for _, b := range []string{"\x00", "\r", "\n", "\n\r", "\r\r", "\n\n", "\r\r\n ", "\n\r\n ", "\r\n \r", "\r\n \n", "\r\n \x00"} {
		for _, body := range []string{"(" + b + ") a@x.example", "a@x.example (" + b + ")", `"\` + b + `" <a@x.example>`, "(\\" + b + ") a@x.example", b + "a@x.example", "a@x.example" + b, "a@x.example, " + b + " p@z", "a@x.example," + b, "a@x.example (" + b} {
			for _, end := range []string{"", "\r\n", "\r\nCc: p@z\r\n", "\r\n\r\na@x.example\r\n"} {
				leaves(t, c, "To:"+body+end, "To: "+body+end, "S: x\r\nTo: "+body+end)
			}
			turns(t, c, "To: "+body+"\r\nCc: a@x.example\r\n", "To: "+body+"\r\nCc: b@y.example\r\n")
			turns(t, c, "Cc: a@x.example\r\nTo: "+body+"\r\n", "Cc: b@y.example\r\nTo: "+body+"\r\n")
		}
		for _, spec := range []string{"a(" + b + ")@x.example", "a@(" + b + ")x.example", "a@x(" + b + ").example"} {
			turns(t, c, "To: "+spec+"\r\n", "To: b@y.example\r\n")
			leaves(t, c, "To: c"+spec+"\r\n")
		}
	}
	for _, spec := range []string{"a\r@x.example", "a@\nx.example", "a\n@\rx.example", "\"a\r\"@x.example", "\"\na\"@x.example", "a@x\r\r\n .example"} {
		turns(t, c, "To: "+spec+"\r\n", "To: b@y.example\r\n")
	}
	eachByte(func(b byte, s string) { // all others may stand there
		if b != 0 && b != '\r' && b != '\n' && b != '(' && b != ')' && b != '\\' {
			turns(t, c, "To: ("+s+") a@x.example\r\n", "To: ("+s+") b@y.example\r\n")
		}
	})
}

// TestP15_4Apart: each field is one for itself, whatever befalls another one.
func TestP15_4Apart(t *testing.T) {
	c := made(t, host, given)
	wrong := []string{"To: a@x.example q@z", "To: a@x.example\x00", "To: a@x.example\n", "To: a@x.example,\x00", "To: (\x00)a@x.example", "To: (" + xs(990) + ")a@x.example", "To: (", "To: \"", "To: <", "To:", "To: postmaster", "To: " + strings.Repeat("a@x.example,\r\n ", 201)}
	for i, one := range wrong {
		other := wrong[(i+1)%len(wrong)]
		turns(t, c, lined("To: a@x.example", one, "To: c@old.example", other, "From: a@x.example"), lined("To: b@y.example", one, "To: c@new.example", other, "From: b@y.example"))
	}
}

// TestP15_4NoTables: with nothing to be put there nothing is turned, not even into an address's form.
func TestP15_4NoTables(t *testing.T) {
	for _, c := range []*canon.Canon{made(t, host), made(t, host, ""), made(t, host, given)} {
		leaves(t, c, lined("To: C@X.Example, \"c\"@z, c . d @ (x) Z, <@r:c@[IPV6:2001:DB8::1]>, postmaster@MX.example", "Cc: postmaster", "", "x"))
	}
}
