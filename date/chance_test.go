package date_test

import (
	"fmt"
	"strings"
	"testing"

	"waybill/date"
)

// text is a date by chance, in which little or nothing is wrong.
func (d *dice) text() string {
	n := d.roll(1<<20) * 300000 % (8031 * 365 * day)
	if d.roll(3) == 0 {
		n = d.roll(3 * day)
	}
	c, e := date.Civil(n)
	if e != 0 {
		c = [6]int{9999, 12, 31, 23, 59, 59}
	}
	week, _ := date.Day(n)
	if d.roll(6) == 0 {
		c[d.roll(6)] += d.roll(5) - 2
	}
	if c[1] < 1 || c[1] > 12 {
		c[1] = 1
	}
	name := d.one([]string{weekNames[3*week:][:3] + ",", weekNames[3*week:][:3] + ",", "", "", "", weekNames[3*d.roll(7):][:3] + ","})
	clock := fmt.Sprintf("%02d:%02d:%02d", c[3], c[4], c[5])
	if d.roll(3) == 0 {
		clock = clock[:len(clock)-3]
	}
	zone := d.one([]string{"+0000", "-0000", "GMT", "UT", "+0100", "-0830", "+2359", "-2359", "+0001", "-0001", fmt.Sprintf("%+03d%02d", d.roll(60)-30, d.roll(70))})
	l := []string{name, fmt.Sprintf(d.one([]string{"%d", "%02d", "%d"}), c[2]), monthNames[3*c[1]-3:][:3], fmt.Sprintf("%04d", c[0]), clock, zone}
	if name == "" {
		l = l[1:]
	}
	return d.spread(l)
}

// spread lays things one behind the other, with blanks and letters as they may be.
func (d *dice) spread(l []string) string {
	var b strings.Builder
	b.WriteString(strings.Repeat(" ", max(0, d.roll(5)-3)))
	for i, thing := range l {
		if i > 0 {
			b.WriteString(strings.Repeat(" ", 1+max(0, d.roll(6)-3)))
		}
		b.WriteString(d.one([]string{thing, thing, strings.ToLower(thing), strings.ToUpper(thing)}))
	}
	b.WriteString(strings.Repeat(" ", max(0, d.roll(5)-3)))
	return b.String()
}

func TestP13_2Chance(t *testing.T) {
	d := dice(132)
	right := 0
	for range 200000 {
		s := d.text()
		for range max(0, d.roll(6)-3) {
			at := d.roll(len(s) + 1)
			piece := d.one([]string{"", " ", "0", "1", "9", ":", ",", "+", "-", "a", "T", "\t", "\x00", "\u0661", "UT"})
			s = s[:at] + piece + s[min(len(s), at+d.roll(2)):]
		}
		same(t, s)
		if _, is := modelParse(s); is {
			right++
		}
	}
	if right < 50000 || right > 150000 {
		t.Error(right)
	}
}

// TestP13_2Rows: all rows of a few things.
func TestP13_2Rows(t *testing.T) {
	pieces := []string{"Thu,", "1", "Jan", "1970", "00:00", "UT", " "}
	var lay func(s string, n int)
	lay = func(s string, n int) {
		same(t, s)
		if n > 0 {
			for _, piece := range pieces {
				lay(s+piece, n-1)
			}
		}
	}
	lay("", 4)
	lay("1 Jan 1970 ", 5)
	lay("Thu, 1 ", 5)
	lay("1 Jan 1970 00:00 ", 4)
}

// TestP1Great: texts of great length end, and are none.
func TestP1Great(t *testing.T) {
	for _, piece := range []string{"0", "1", "a", " ", ",", ":", "+", "-", "1 ", "Thu, ", "\x00", "\xff", "\u0661", "1 Jan 1970 00:00 UT "} {
		many := strings.Repeat(piece, 1<<22/len(piece))
		wrong(t, many, "Thu, "+many, "Thu,"+many, "1 "+many, "1 Jan "+many, "1 Jan 1970 "+many, "1 Jan 1970 00:"+many, "1 Jan 1970 00:00 "+many, "1 Jan 1970 00:00 +"+many)
		if piece != " " {
			wrong(t, "1 Jan 1970 00:00 UT "+many)
		} else {
			reads(t, 0, "1 Jan 1970 00:00 UT "+many, many+"1 Jan 1970 00:00 UT", "1"+many+"Jan"+many+"1970 00:00 UT")
		}
	}
}
