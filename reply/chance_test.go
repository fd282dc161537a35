package reply_test

import (
	"strings"
	"testing"

	"waybill/api"
	"waybill/reply"
)

// reply is one by chance; one of wrong may not be, and of 0 each may.
func (d *dice) reply(wrong int) api.Reply {
	r := api.Reply{Code: 100*(2+d.roll(4)) + 10*d.roll(6) + d.roll(10)}
	n := 1 + d.roll(5)
	if d.roll(10) == 0 {
		n = 50 - d.roll(3)
	}
	for range n {
		r.Lines = append(r.Lines, d.text())
	}
	if wrong == 0 || d.roll(wrong) > 0 {
		return r
	}
	at := d.roll(n)
	switch d.roll(4) {
	case 0:
		r.Code = d.roll(2000) - 300
	case 1:
		r.Lines[at] += d.one([]string{"\r", "\n", "\x00", "\x7f", "\u00e9", "\xff", "\x1f", "\t", " "})
	case 2:
		r.Lines[at] = xs(504 + d.roll(5))
	default:
		r.Lines = append(r.Lines, as(d.roll(60))...)
	}
	return r
}

func (d *dice) text() string {
	s := d.row(3, []string{"", "", "a", "Ok", " ", "-", "\t", "250 ", "5.1.1 ", "~", "xyz", xs(d.roll(60))})
	if d.roll(30) == 0 {
		s = xs(506 - d.roll(2))
	}
	return s
}

// bytes are those of a reply by chance, in which little or nothing is wrong.
func (d *dice) bytes() string {
	s := modelPrint(d.reply(0))
	if d.roll(3) == 0 {
		s = strings.Replace(s, s[:3]+" \r\n", s[:3]+"\r\n", 1)
	}
	if d.roll(3) == 0 {
		s += d.one(tails)
	}
	for range max(0, d.roll(5)-2) {
		at := d.roll(len(s) + 1)
		piece := d.one([]string{"", "", "\r", "\n", "\r\n", " ", "-", "0", "2", "a", "\x00", "\x80", "250-", xs(500)})
		s = s[:at] + piece + s[min(len(s), at+d.roll(2)):]
	}
	if d.roll(20) == 0 {
		s = s[:d.roll(len(s)+1)]
	}
	return s
}

// asModel wants Right and Print to tell what the model does.
func asModel(t *testing.T, r api.Reply) bool {
	t.Helper()
	if modelRight(r) {
		prints(t, r, modelPrint(r))
		return true
	}
	printsNot(t, r)
	return false
}

func TestP14_1Chance(t *testing.T) {
	d := dice(141)
	right := 0
	for range 40000 {
		if asModel(t, d.reply(2)) {
			right++
		}
	}
	if right < 20000 || right > 39000 {
		t.Error(right)
	}
}

// everyRow calls do with all rows of up to n of these pieces.
func everyRow(n int, pieces []string, do func(s string)) {
	var lay func(s string, n int)
	lay = func(s string, n int) {
		do(s)
		if n > 0 {
			for _, piece := range pieces {
				lay(s+piece, n-1)
			}
		}
	}
	lay("", n)
}

// TestP14_2Rows: all rows of a few pieces.
func TestP14_2Rows(t *testing.T) {
	everyRow(6, []string{"2", "5", "0", "-", " ", "\r", "\n"}, func(s string) { same(t, s) })
	everyRow(6, []string{"250", "251", "-", " ", "\r\n", "\n"}, func(s string) { same(t, s) })
	everyRow(4, []string{"250-\r\n", "250 \r\n", "250\r\n", "250-a\r\n", "250 a\r\n", "251-\r\n", "251 \r\n", "250 \n", xs(511), xs(512)}, func(s string) { same(t, s) })
	everyRow(3, []string{"250-a\r\n", "250 b\r\n", "251 \r\n", "\n", "x", "\r\n", "250\r\n", xs(511)}, func(s string) { same(t, rows(49)+s) })
	everyRow(2, []string{"\t", " ", "~", "\x7f", "\x1f", "\x80", "\u00e9", "\r", "\n", "\x00", xs(505), xs(506)}, func(s string) {
		same(t, "250 "+s+"\r\n", "250-a\r\n250 "+s+"\r\n", "250-"+s+"\r\n250 b\r\n")
	})
}

func TestP14_2Chance(t *testing.T) {
	d := dice(142)
	codes := map[api.Errno]int{}
	for range 100000 {
		s := d.bytes()
		same(t, s)
		_, _, e := modelRead(s)
		codes[e]++
	}
	if len(codes) != 4 || codes[api.OK] < 20000 || codes[api.ErrReplyForm] < 10000 || codes[api.ErrReplyLong] < 1000 || codes[api.ErrReplyShort] < 1000 {
		t.Error(codes)
	}
}

// TestP14_3Rows: all rows of a few pieces, and by chance.
func TestP14_3Rows(t *testing.T) {
	agree := func(s string) { tells(t, modelStatus(s), s) }
	everyRow(7, []string{"5", ".", "0", "1", " "}, agree)
	everyRow(5, []string{"2", "3", ".", "0", "12", "345", " ", "x"}, agree)
	everyRow(5, []string{".", "0", "00", "1", "99", " ", "x"}, func(s string) {
		agree("5." + s)
		agree("4.1." + s)
	})
	d := dice(143)
	for range 100000 {
		agree(d.one([]string{"2", "4", "5", "5", "3", "", "05"}) + d.one([]string{".", ".", ".", ".", "", ",", ".."}) + d.row(3, []string{"0", "1", "7", "", "9"}) + d.one([]string{".", ".", ".", ".", "", " "}) + d.row(3, []string{"0", "1", "7", "", "9"}) + d.row(2, []string{"", " ", "x", ".", "\t", "\x00", " no"}))
	}
}

// TestP1Great: all calls end with great things, too.
func TestP1Great(t *testing.T) {
	for _, piece := range []string{"", "a", "\r\n", "\n", "250-\r\n", "250 \r\n", "250", "\x00", "\xff", "\u0661", " ", "."} {
		great := strings.Repeat(piece, 1<<21)
		r := says(250, great, great)
		if is := reply.Right(r); is != (piece == "") {
			t.Errorf("%q: %v", piece, is)
		}
		same(t, great, "250-"+great, "250-\r\n"+great)
		tells(t, modelStatus(great), great)
		tells(t, modelStatus("5.1."+great), "5.1."+great)
	}
	printsNot(t, says(250, make([]string, 1<<21)...))
}
