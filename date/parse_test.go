package date_test

import (
	"fmt"
	"strings"
	"testing"

	"waybill/api"
)

// The things of a right text, one behind the other, and its tick.
const (
	rightText = "Tue, 29 Feb 2000 12:34:56 +0102"
	rightTick = 951782400 + 12*3600 + 34*60 + 56 - 3600 - 2*60
)

func rightThings() []string { return strings.Split(rightText, " ") }

func with(i int, thing string) string {
	l := rightThings()
	l[i] = thing
	return strings.Join(l, " ")
}

func TestP13_2Examples(t *testing.T) {
	reads(t, 0, "1 Jan 1970 01:00 +0100")
	reads(t, 5, "thu, 01 jan 1970 00:00:05 gmt")
	wrong(t, "Fri, 1 Jan 1970 00:00:00 +0000", "29 Feb 2001 00:00 UT", "1 Jan 1970 00:00 +0001")
	reads(t, rightTick, rightText)
	reads(t, 1000000000, "Sun, 9 Sep 2001 01:46:40 +0000", "9 Sep 2001 01:46:40 UT", "sUN,  09  sEP  2001  03:46:40  +0200  ")
}

// TestP13_2Name: the day's name.
func TestP13_2Name(t *testing.T) {
	reads(t, rightTick, rightText[5:], "  "+rightText[5:], with(0, "TUE,"), with(0, "tue,"), with(0, "tUe,"))
	wrong(t, with(0, "Tue"), with(0, "Tue ,"), with(0, "Tue,,"), with(0, "Tue, ,"), with(0, ",Tue"), with(0, ",Tue,"), with(0, ","), with(0, " ,"), with(0, ",,"), with(0, ", ,"),
		with(0, "Tu,"), with(0, "Tues,"), with(0, "Tuesday,"), with(0, "T,"), with(0, "2,"), with(0, "(Tue),"), with(0, "Tue;"), with(0, "Tue."), with(0, "Foo,"), with(0, "Feb,"), with(0, "x,"),
		with(0, "Tue, Tue,"), with(0, "Mon, Tue,"), with(0, "Tue\x00,"), with(0, "Tue\t,"), with(0, "\"Tue\","), with(0, "\u0442ue,"))
	wrong(t, "Tue,29 Feb 2000 12:34:56 +0102", "Tue29 Feb 2000 12:34:56 +0102", ",29 Feb 2000 12:34:56 +0102", "29, Feb 2000 12:34:56 +0102", "29 Feb, 2000 12:34:56 +0102", "29 Feb 2000, 12:34:56 +0102", "29 Feb 2000 12:34:56, +0102", "29 Feb 2000 12:34:56 +0102,", "29 Tue, Feb 2000 12:34:56 +0102", "29 Feb 2000 12:34:56 +0102 Tue,", "Tue,", "Tue, ")
	for i := range 7 {
		name := weekNames[3*i:][:3]
		for n := range 14 {
			s := fmt.Sprintf("%s, %d Jan 1970 00:00 UT", name, n+1)
			if (n+4)%7 != i {
				wrong(t, s)
				continue
			}
			eachCase(name, func(other string) { reads(t, n*day, other+s[3:]) })
			wrong(t, name[:2]+s[3:], name+"x"+s[3:], "x"+s)
		}
	}
	// Other runes whose lower or upper forms are letters of names.
	wrong(t, "\u017fun, 4 Jan 1970 00:00 UT", "\u017fat, 3 Jan 1970 00:00 UT", "1 \u017fep 1970 00:00 UT", "\uff34\uff48\uff55, 1 Jan 1970 00:00 UT", "1 \u212aan 1970 00:00 UT", "1 J\u00e4n 1970 00:00 UT")
}

func TestP13_2Month(t *testing.T) {
	for month := range 12 {
		name := monthNames[3*month:][:3]
		first := firstDays()[[2]int{1970, month + 1}]
		eachCase(name, func(other string) { reads(t, first*day, "1 "+other+" 1970 00:00 UT") })
		for _, other := range []string{name[:2], name + "x", name + ",", name + ".", "x" + name, name[1:], strings.Repeat(name, 2), name[:2] + "x", fmt.Sprint(month + 1), fmt.Sprintf("%02d", month+1), fmt.Sprintf("%03d", month+1)} {
			wrong(t, "1 "+other+" 1970 00:00 UT")
		}
	}
	wrong(t, with(2, "Foo"), with(2, "Tue"), with(2, "February"), with(2, "JanFeb"), with(2, "anF"), with(2, "nFe"), with(2, ""), with(2, "Jan Feb"), with(2, "M\u00e4r"), with(2, "Fe\x00"))
}

// TestP13_2Day: days that there are, as they may be written, and others.
func TestP13_2Day(t *testing.T) {
	for _, year := range []int{1970, 1972, 1999, 2000, 2004, 2100, 2400, 9996, 9999} {
		for month := 1; month <= 12; month++ {
			first := firstDays()[[2]int{year, month}]
			for d := range 100 {
				rest := fmt.Sprintf(" %s %04d 00:00 UT", monthNames[3*month-3:][:3], year)
				l := []string{fmt.Sprint(d) + rest, fmt.Sprintf("%02d", d) + rest, fmt.Sprintf(" %2d", d) + rest}
				if d < 1 || d > modelLength(year, month) {
					wrong(t, l...)
				} else {
					reads(t, (first+d-1)*day, l...)
				}
				wrong(t, fmt.Sprintf("%03d", d)+rest, fmt.Sprintf("+%d", d)+rest, fmt.Sprintf("-%d", d)+rest, fmt.Sprintf("%d.", d)+rest, fmt.Sprintf("1%02d", d)+rest)
			}
		}
	}
	reads(t, 27*day, "28 Jan 1970 00:00 UT")
	reads(t, 30*day, "31 Jan 1970 00:00 UT")
	reads(t, 0, "1 Jan 1970 00:00 UT", "01 Jan 1970 00:00 UT")
	wrong(t, "0 Jan 1970 00:00 UT", "00 Jan 1970 00:00 UT", "001 Jan 1970 00:00 UT", "32 Jan 1970 00:00 UT", "1st Jan 1970 00:00 UT", "0x1 Jan 1970 00:00 UT", "x Jan 1970 00:00 UT", "1x Jan 1970 00:00 UT", "x1 Jan 1970 00:00 UT", "1 1 Jan 1970 00:00 UT", "\u0661 Jan 1970 00:00 UT", "\uff11 Jan 1970 00:00 UT", "\u00b9 Jan 1970 00:00 UT", "18446744073709551617 Jan 1970 00:00 UT", "4294967297 Jan 1970 00:00 UT", "257 Jan 1970 00:00 UT")
	reads(t, 951782400, "29 Feb 2000 00:00 UT")
	wrong(t, "29 Feb 1999 00:00 UT", "30 Feb 2000 00:00 UT", "29 Feb 2100 00:00 UT", "29 Feb 2001 00:00 UT", "31 Apr 2000 00:00 UT")
}

func TestP13_2Year(t *testing.T) {
	reads(t, 365*day, "1 Jan 1971 00:00 UT")
	reads(t, 253370764800, "1 Jan 9999 00:00 UT")
	wrong(t, with(3, "0000"), with(3, "0001"), with(3, "0004"), with(3, "0400"), with(3, "1600"), with(3, "1968"), with(3, "1969"), with(3, "00"), with(3, "000"), with(3, "200"), with(3, "20000"), with(3, "02000"), with(3, "+2000"), with(3, "-2000"), with(3, "2 000"), with(3, "2000."), with(3, "200x"), with(3, "x000"), with(3, "2,00"), with(3, "\u0662\u0660\u0660\u0660"), with(3, "\u0662\u0660"), with(3, "18446744073709553616"), with(3, "4294969296"), with(3, "67536"))
	wrong(t, "1 Jan 70 00:00 UT", "1 Jan 970 00:00 UT", "1 Jan 10000 00:00 UT", "1 Jan 10000 00:00 +2359", "1 Jan 01970 00:00 UT", "1 Jan 19700 00:00 UT", "1 Jan 1970x 00:00 UT", "1 Jan 0000 00:00 UT", "1 Jan 1969 00:00 UT", "31 Dec 1969 23:59:59 UT", "29 Feb 0000 00:00 UT", "31 Dec 0000 23:59 -2359")
	for year := range 10000 {
		same(t, fmt.Sprintf("29 Feb %04d 00:00 +0000", year))
		same(t, fmt.Sprintf("1 Jan %04d 00:00 +0000", year))
		same(t, fmt.Sprintf("1 Jan %04d 00:00 +0001", year))
		same(t, fmt.Sprintf("31 Dec %04d 23:59:59 -0001", year))
	}
}

func TestP13_2Time(t *testing.T) {
	for n := range 100 {
		for _, x := range []struct {
			form  string
			most  int
			times int
		}{
			{"1 Jan 1970 %02d:00 UT", 23, 3600}, {"1 Jan 1970 %02d:00:00 UT", 23, 3600},
			{"1 Jan 1970 00:%02d UT", 59, 60}, {"1 Jan 1970 00:%02d:00 UT", 59, 60}, {"1 Jan 1970 00:00:%02d UT", 59, 1},
		} {
			if n <= x.most {
				reads(t, n*x.times, fmt.Sprintf(x.form, n))
			} else {
				wrong(t, fmt.Sprintf(x.form, n))
			}
			wrong(t, fmt.Sprintf(strings.Replace(x.form, "%02d", "%03d", 1), n), fmt.Sprintf(strings.Replace(x.form, "%02d", "1%02d", 1), n), fmt.Sprintf(strings.Replace(x.form, "%02d", "+%d", 1), n))
			if n < 10 {
				wrong(t, fmt.Sprintf(strings.Replace(x.form, "%02d", "%d", 1), n), fmt.Sprintf(strings.Replace(x.form, "%02d", " %d", 1), n))
			}
		}
	}
	reads(t, 45296, "1 Jan 1970 12:34:56 UT")
	reads(t, 45240, "1 Jan 1970 12:34 UT", "1 Jan 1970 12:34:00 UT")
	for _, clock := range []string{"", ":", "::", "12", "12:", ":34", "12:34:", "12:34:56:", "12:34:56:00", ":12:34", ":12:34:56", "12::34", "12:34::56", "12:34:5", "12:34:056", "12:3", "12:3:56", "1:34", "1:34:56", "12 :34", "12: 34", "12:34 :56", "12:34: 56", "12 : 34 : 56", "1234", "123456", "12.34", "12.34.56", "12:34.56", "12.34:56", "12-34-56", "12:34;56", "12;34", "12:34:5.", "12:34:56.7", "-1:34", "+1:34", "12:-4", "12:+4:56", "12:34:-6", "12:34:+6", "1a:34", "a1:34", "12:3a", "12:a4", "12:34:5a", "12:34:a6", "24:00", "24:00:00", "23:60", "23:59:60", "12:34PM", "12:34:56x", "x12:34:56", "12:34Z", "\u0661\u0662:\u0663\u0664", "\u0661:34", "12:\u0663", "12:34:\u0665", "12\x0034:56", "12:34\x0056", "12:34 12:34", "0012:34", "12:34/56", "/0:34", "12:/0", "12:34:/0"} {
		wrong(t, with(4, clock), "1 Jan 1970 "+clock+" UT")
	}
}

func TestP13_2Zone(t *testing.T) {
	base := rightTick + 3600 + 2*60
	for _, zone := range []string{"+0000", "-0000"} {
		reads(t, base, with(5, zone))
	}
	for _, name := range []string{"GMT", "UT"} {
		eachCase(name, func(zone string) { reads(t, base, with(5, zone)) })
	}
	for hour := range 100 {
		for minute := range 100 {
			east, west := with(5, fmt.Sprintf("+%02d%02d", hour, minute)), with(5, fmt.Sprintf("-%02d%02d", hour, minute))
			if hour > 23 || minute > 59 {
				wrong(t, east, west)
				continue
			}
			reads(t, base-hour*3600-minute*60, east)
			reads(t, base+hour*3600+minute*60, west)
		}
	}
	reads(t, base-86340, with(5, "+2359"))
	reads(t, base+86340, with(5, "-2359"))
	for _, zone := range []string{"", "+", "-", "0000", "0100", "+0", "+00", "+000", "+00000", "-01000", "+010", "*0100", "~0100", "=0000", "++000", "+-100", "--100", "+ 0100", "+01 00", "+01:00", "+1:00", "+01:0", "+0x10", "+-1-1", "+0-10", "+a000", "+0a00", "+00a0", "+000a", "+2400", "+2360", "+0060", "-0060", "-2400", "+9999", "\u22120100", "\u2212100", "+\u0661\u0660", "+\u0661\u0660\u0660\u0660", "+/000", "+0:00", "+00/0", "+000:", "UTC", "utc", "Z", "z", "A", "U", "T", "G", "GM", "MT", "GMTT", "UTT", "GMT+1", "GMT+0100", "UT0", "UT,", "UT.", "(UT)", "GMT(x)", "+0000(UT)", "EST", "EDT", "CST", "PDT", "CET", "WET", "UT\x00", "\x00UT", "G\x00T", "GMT\x00", "\u0261mt", "\uff35\uff34"} {
		wrong(t, with(5, zone))
	}
	for _, zone := range []string{" (UT)", " (comment)", " UT", " +0000", " x", " ,", " \x00"} {
		wrong(t, rightText+zone, with(5, "GMT")+zone)
	}
}

// TestP13_2Blanks: where blanks must be, may be and may not be.
func TestP13_2Blanks(t *testing.T) {
	reads(t, rightTick, " "+rightText, rightText+" ", "   "+rightText+"     ", strings.ReplaceAll(rightText, " ", "   "), "  "+strings.ReplaceAll(rightText, " ", "  ")+"  ")
	for i := range len(rightText) {
		if rightText[i] == ' ' {
			for _, many := range []string{"  ", "   ", strings.Repeat(" ", 70000)} {
				reads(t, rightTick, rightText[:i]+many+rightText[i+1:])
			}
			for _, other := range []string{"", "\t", " \t", "\t ", "\r\n ", "\r\n", " \r\n ", "\n", "\n ", "\r", "\x00", " \x00", "\x00 ", "\v", "\f", "\u00a0", "\u2003", "\u3000", "_", "-", ",", ", ", " , ", "\x85", "\xa0", "\x7f", "(x)", " (x) "} {
				wrong(t, rightText[:i]+other+rightText[i+1:])
			}
		} else if i > 0 && rightText[i-1] != ' ' {
			wrong(t, rightText[:i]+" "+rightText[i:])
		}
	}
	for _, other := range []string{"\t", "\r\n", "\r\n ", "\n", "\r", "\x00", "\v", "\f", "\u00a0", "\u2003", "\ufeff", ",", "x", "(x)", "0"} {
		wrong(t, other+rightText, other+" "+rightText, " "+other+" "+rightText, rightText+other, rightText+" "+other, rightText+" "+other+" ", other, " "+other+" ")
	}
	wrong(t, "", " ", "  ", strings.Repeat(" ", 100000))
}

// TestP13_2Things: each thing missing, doubled, and in another's place.
func TestP13_2Things(t *testing.T) {
	l := rightThings()
	for i, thing := range l {
		missing := strings.Join(append(append([]string{}, l[:i]...), l[i+1:]...), " ")
		if i == 0 {
			reads(t, rightTick, missing)
		} else {
			wrong(t, missing, with(i, ""), with(i, "x"), with(i, "0"), with(i, thing+"x"), with(i, "x"+thing), with(i, thing+thing))
		}
		wrong(t, with(i, thing+" "+thing), strings.Join(l[:i], " "), thing, " "+thing+" ")
		for j := range i {
			turned := rightThings()
			turned[i], turned[j] = turned[j], turned[i]
			wrong(t, strings.Join(turned, " "))
		}
	}
	wrong(t, rightText+" "+rightText, rightText+rightText, "2000-02-29T12:34:56Z", "2000-02-29 12:34:56 +0000", "Tue Feb 29 12:34:56 2000", "Tue, 29-Feb-00 12:34:56 GMT", "Tuesday, 29-Feb-00 12:34:56 GMT", "951782400")
}

// TestP13_2Bytes: each byte in place of each byte of right texts, and in between.
func TestP13_2Bytes(t *testing.T) {
	for _, text := range []string{rightText, "Thu, 1 Jan 1970 00:00:00 +0000", "Fri, 31 Dec 9999 23:59:59 -0000", "9 sep 2001 01:46 gmt", "  sun,   09   SEP   2001   01:46   ut  "} {
		for i := range len(text) {
			for c := range 256 {
				same(t, text[:i]+string([]byte{byte(c)})+text[i+1:])
				same(t, text[:i]+string([]byte{byte(c)})+text[i:])
			}
			same(t, text[:i]+text[i+1:])
			same(t, text[:i])
			same(t, text[i:])
		}
		for c := range 256 {
			same(t, text+string([]byte{byte(c)}))
		}
	}
}

// TestP13_2Bounds: zones that bring ticks in and out, and turn the day.
func TestP13_2Bounds(t *testing.T) {
	reads(t, 0, "1 Jan 1970 00:00 +0000", "1 Jan 1970 00:00:00 -0000", "31 Dec 1969 23:59 -0001", "Wed, 31 Dec 1969 23:59 -0001", "31 Dec 1969 00:01 -2359", "1 Jan 1970 00:01 +0001", "1 Jan 1970 23:59 +2359", "Thu, 1 Jan 1970 23:59 +2359")
	reads(t, 59, "31 Dec 1969 23:59:59 -0001")
	reads(t, 1, "31 Dec 1969 23:00:01 -0100")
	reads(t, 23*3600+59*60+59+23*3600+59*60-day, "Wed, 31 Dec 1969 23:59:59 -2359")
	wrong(t, "1 Jan 1970 00:00 +0001", "1 Jan 1970 00:00:59 +0001", "31 Dec 1969 23:59:59 +0000", "31 Dec 1969 23:59:59 -0000", "31 Dec 1969 23:59:59 UT", "31 Dec 1969 23:58:59 -0001", "31 Dec 1969 00:00 -2359", "31 Dec 1969 00:00:59 -2359", "30 Dec 1969 23:59:59 -2359", "Thu, 31 Dec 1969 23:59 -0001", "1 Jan 1970 23:58:59 +2359", "1 Jan 1969 00:00 -0001", "Tue, 30 Dec 1969 23:59:59 -2359")
	reads(t, api.MaxDateTick, "31 Dec 9999 23:59:59 -0000", "31 Dec 9999 23:59:59 +0000", "Fri, 31 Dec 9999 23:59:59 GMT", "31 Dec 9999 23:58:59 -0001", "31 Dec 9999 00:00:59 -2359")
	reads(t, api.MaxDateTick-60, "31 Dec 9999 23:59:59 +0001", "31 Dec 9999 23:58:59 UT")
	reads(t, api.MaxDateTick-59, "31 Dec 9999 23:59 UT")
	reads(t, api.MaxDateTick-86340, "31 Dec 9999 23:59:59 +2359")
	wrong(t, "31 Dec 9999 23:59:59 -0001", "31 Dec 9999 23:59 -0001", "31 Dec 9999 23:59:00 -0001", "31 Dec 9999 00:01 -2359", "1 Jan 10000 00:00 +0000", "1 Jan 10000 00:00 +0001", "01 Jan 10000 00:00 +2359", "31 Dec 9999 24:00 +0001", "31 Dec 9999 23:59:60 +0001", "1 Jan 0000 00:00 +0001")
	// The name is that of the date that is written, not of the tick's.
	reads(t, 86400+1800, "Sat, 3 Jan 1970 00:00 +2330", "Fri, 2 Jan 1970 00:30 +0000", "Thu, 1 Jan 1970 01:00 -2330")
	wrong(t, "Fri, 3 Jan 1970 00:00 +2330", "Fri, 1 Jan 1970 01:00 -2330", "Sat, 2 Jan 1970 00:30 +0000")
	reads(t, 951782400+day-86340+59, "Wed, 1 Mar 2000 00:00:59 +2359")
	reads(t, 951782400-1, "Mon, 28 Feb 2000 23:59:59 +0000", "Tue, 29 Feb 2000 00:59:59 +0100")
}
