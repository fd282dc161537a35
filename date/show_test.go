package date_test

import (
	"math"
	"testing"
	"time"

	"waybill/api"
	"waybill/date"
)

func TestP13_1Edges(t *testing.T) {
	for _, n := range []int{math.MinInt, math.MinInt + 1, math.MinInt32, -day - 1, -day, -3600, -60, -2, -1, api.MaxDateTick + 1, api.MaxDateTick + 2, api.MaxDateTick + 60, api.MaxDateTick + day, 2 * api.MaxDateTick, 1 << 40, 1 << 62, math.MaxInt - 1, math.MaxInt} {
		noTick(t, n)
	}
	for n, want := range map[int][6]int{
		0:                    {1970, 1, 1, 0, 0, 0},
		1:                    {1970, 1, 1, 0, 0, 1},
		9:                    {1970, 1, 1, 0, 0, 9},
		10:                   {1970, 1, 1, 0, 0, 10},
		59:                   {1970, 1, 1, 0, 0, 59},
		60:                   {1970, 1, 1, 0, 1, 0},
		61:                   {1970, 1, 1, 0, 1, 1},
		599:                  {1970, 1, 1, 0, 9, 59},
		600:                  {1970, 1, 1, 0, 10, 0},
		3599:                 {1970, 1, 1, 0, 59, 59},
		3600:                 {1970, 1, 1, 1, 0, 0},
		35999:                {1970, 1, 1, 9, 59, 59},
		36000:                {1970, 1, 1, 10, 0, 0},
		86399:                {1970, 1, 1, 23, 59, 59},
		math.MaxInt32:        {2038, 1, 19, 3, 14, 7},
		math.MaxInt32 + 1:    {2038, 1, 19, 3, 14, 8},
		math.MaxUint32:       {2106, 2, 7, 6, 28, 15},
		math.MaxUint32 + 1:   {2106, 2, 7, 6, 28, 16},
		api.MaxDateTick - 1:  {9999, 12, 31, 23, 59, 58},
		api.MaxDateTick:      {9999, 12, 31, 23, 59, 59},
		api.MaxDateTick - 59: {9999, 12, 31, 23, 59, 0},
	} {
		tells(t, n, int(time.Unix(int64(n), 0).UTC().Weekday()), want)
	}
	tells(t, 86400, 5, [6]int{1970, 1, 2, 0, 0, 0})
	for _, x := range []shown{
		{0, "Thu, 1 Jan 1970 00:00:00 +0000"},
		{86399, "Thu, 1 Jan 1970 23:59:59 +0000"},
		{86400, "Fri, 2 Jan 1970 00:00:00 +0000"},
		{951782400, "Tue, 29 Feb 2000 00:00:00 +0000"},
		{1000000000, "Sun, 9 Sep 2001 01:46:40 +0000"},
		{1234567890, "Fri, 13 Feb 2009 23:31:30 +0000"},
		{api.MaxDateTick, "Fri, 31 Dec 9999 23:59:59 +0000"},
	} {
		shows(t, x.tick, x.text)
	}
}

func TestP13_1Leap(t *testing.T) {
	for _, x := range []shown{
		{68169599, "Mon, 28 Feb 1972 23:59:59 +0000"},
		{68169600, "Tue, 29 Feb 1972 00:00:00 +0000"},
		{68255999, "Tue, 29 Feb 1972 23:59:59 +0000"},
		{68256000, "Wed, 1 Mar 1972 00:00:00 +0000"},
		{920246399, "Sun, 28 Feb 1999 23:59:59 +0000"},
		{920246400, "Mon, 1 Mar 1999 00:00:00 +0000"},
		{951782399, "Mon, 28 Feb 2000 23:59:59 +0000"},
		{951782400, "Tue, 29 Feb 2000 00:00:00 +0000"},
		{951868799, "Tue, 29 Feb 2000 23:59:59 +0000"},
		{951868800, "Wed, 1 Mar 2000 00:00:00 +0000"},
		{1078012799, "Sat, 28 Feb 2004 23:59:59 +0000"},
		{1078012800, "Sun, 29 Feb 2004 00:00:00 +0000"},
		{1078099199, "Sun, 29 Feb 2004 23:59:59 +0000"},
		{1078099200, "Mon, 1 Mar 2004 00:00:00 +0000"},
		{4107542399, "Sun, 28 Feb 2100 23:59:59 +0000"},
		{4107542400, "Mon, 1 Mar 2100 00:00:00 +0000"},
		{13574563199, "Mon, 28 Feb 2400 23:59:59 +0000"},
		{13574563200, "Tue, 29 Feb 2400 00:00:00 +0000"},
		{13574649599, "Tue, 29 Feb 2400 23:59:59 +0000"},
		{13574649600, "Wed, 1 Mar 2400 00:00:00 +0000"},
		{253375862399, "Sun, 28 Feb 9999 23:59:59 +0000"},
		{253375862400, "Mon, 1 Mar 9999 00:00:00 +0000"},
	} {
		shows(t, x.tick, x.text)
	}
}

// TestP13_1NewYear: about new years that come on each day of the week, behind years of both lengths.
func TestP13_1NewYear(t *testing.T) {
	for _, x := range []shown{
		{31535999, "Thu, 31 Dec 1970 23:59:59 +0000"},
		{31536000, "Fri, 1 Jan 1971 00:00:00 +0000"},
		{63071999, "Fri, 31 Dec 1971 23:59:59 +0000"},
		{63072000, "Sat, 1 Jan 1972 00:00:00 +0000"},
		{94694399, "Sun, 31 Dec 1972 23:59:59 +0000"},
		{94694400, "Mon, 1 Jan 1973 00:00:00 +0000"},
		{126230399, "Mon, 31 Dec 1973 23:59:59 +0000"},
		{189302400, "Thu, 1 Jan 1976 00:00:00 +0000"},
		{220924799, "Fri, 31 Dec 1976 23:59:59 +0000"},
		{283996800, "Mon, 1 Jan 1979 00:00:00 +0000"},
		{315532799, "Mon, 31 Dec 1979 23:59:59 +0000"},
		{946684799, "Fri, 31 Dec 1999 23:59:59 +0000"},
		{946684800, "Sat, 1 Jan 2000 00:00:00 +0000"},
		{978307199, "Sun, 31 Dec 2000 23:59:59 +0000"},
		{978307200, "Mon, 1 Jan 2001 00:00:00 +0000"},
		{1735689600, "Wed, 1 Jan 2025 00:00:00 +0000"},
		{1767225599, "Wed, 31 Dec 2025 23:59:59 +0000"},
		{4102444799, "Thu, 31 Dec 2099 23:59:59 +0000"},
		{4102444800, "Fri, 1 Jan 2100 00:00:00 +0000"},
		{4133980799, "Fri, 31 Dec 2100 23:59:59 +0000"},
		{4133980800, "Sat, 1 Jan 2101 00:00:00 +0000"},
		{13569465599, "Fri, 31 Dec 2399 23:59:59 +0000"},
		{13569465600, "Sat, 1 Jan 2400 00:00:00 +0000"},
		{13601087999, "Sun, 31 Dec 2400 23:59:59 +0000"},
		{13601088000, "Mon, 1 Jan 2401 00:00:00 +0000"},
		{64060588800, "Sat, 1 Jan 4000 00:00:00 +0000"},
		{64092211199, "Sun, 31 Dec 4000 23:59:59 +0000"},
		{253370764799, "Thu, 31 Dec 9998 23:59:59 +0000"},
		{253370764800, "Fri, 1 Jan 9999 00:00:00 +0000"},
	} {
		shows(t, x.tick, x.text)
	}
	weeks := map[[2]int]int{}
	eachDay(func(n int, d civilDay) {
		if d.month == 1 && d.day == 1 {
			tells(t, n*day, d.week, [6]int{d.year, 1, 1, 0, 0, 0})
			weeks[[2]int{d.week, modelLength(d.year, 2)}]++
		}
		if d.month == 12 && d.day == 31 {
			tells(t, n*day+day-1, d.week, [6]int{d.year, 12, 31, 23, 59, 59})
		}
	})
	if len(weeks) != 14 {
		t.Error(weeks)
	}
}

// TestP13_1Names: each name as it is written, and where numbers have one digit or two.
func TestP13_1Names(t *testing.T) {
	for i, name := range []string{"Thu", "Fri", "Sat", "Sun", "Mon", "Tue", "Wed"} {
		shows(t, i*day, name+", "+string(rune('1'+i))+" Jan 1970 00:00:00 +0000")
		if d, e := date.Day(i * day); d != (i+4)%7 || e != api.OK {
			t.Errorf("%s: %d %v", name, d, e)
		}
	}
	// The first day of each month of 2026, at noon and a bit, and its tenth.
	for i, x := range []shown{
		{1767258123, "Thu, 1 Jan"}, {1769936523, "Sun, 1 Feb"}, {1772355723, "Sun, 1 Mar"}, {1775034123, "Wed, 1 Apr"},
		{1777626123, "Fri, 1 May"}, {1780304523, "Mon, 1 Jun"}, {1782896523, "Wed, 1 Jul"}, {1785574923, "Sat, 1 Aug"},
		{1788253323, "Tue, 1 Sep"}, {1790845323, "Thu, 1 Oct"}, {1793523723, "Sun, 1 Nov"}, {1796115723, "Tue, 1 Dec"},
	} {
		shows(t, x.tick, x.text+" 2026 09:02:03 +0000")
		tells(t, x.tick+9*day+3600, (map[string]int{"Sun": 0, "Mon": 1, "Tue": 2, "Wed": 3, "Thu": 4, "Fri": 5, "Sat": 6}[x.text[:3]]+9)%7, [6]int{2026, i + 1, 10, 10, 2, 3})
	}
}

// TestP13_1Months: the first and the last second of each month of years of both lengths, and each day of them.
func TestP13_1Months(t *testing.T) {
	lengths := map[int][12]int{
		1970: {31, 28, 31, 30, 31, 30, 31, 31, 30, 31, 30, 31},
		2000: {31, 29, 31, 30, 31, 30, 31, 31, 30, 31, 30, 31},
		2026: {31, 28, 31, 30, 31, 30, 31, 31, 30, 31, 30, 31},
		2028: {31, 29, 31, 30, 31, 30, 31, 31, 30, 31, 30, 31},
		2100: {31, 28, 31, 30, 31, 30, 31, 31, 30, 31, 30, 31},
		9999: {31, 28, 31, 30, 31, 30, 31, 31, 30, 31, 30, 31},
	}
	for year, months := range lengths {
		n := int(time.Date(year, 1, 1, 0, 0, 0, 0, time.UTC).Unix())
		week := int(time.Date(year, 1, 1, 0, 0, 0, 0, time.UTC).Weekday())
		for month, length := range months {
			for d := range length {
				tells(t, n, week, [6]int{year, month + 1, d + 1, 0, 0, 0})
				tells(t, n+day-1, week, [6]int{year, month + 1, d + 1, 23, 59, 59})
				n += day
				week = (week + 1) % 7
			}
		}
	}
}

// TestP13_1Seconds: each second of a day.
func TestP13_1Seconds(t *testing.T) {
	n := 951782400
	for hour := range 24 {
		for minute := range 60 {
			for second := range 60 {
				tells(t, n, 2, [6]int{2000, 2, 29, hour, minute, second})
				n++
			}
		}
	}
}

// TestP13_1Days: each day that there is.
func TestP13_1Days(t *testing.T) {
	eachDay(func(n int, d civilDay) {
		second := n * 31 % day
		c, e := date.Civil(n*day + second)
		if want := [6]int{d.year, d.month, d.day, second / 3600, second / 60 % 60, second % 60}; c != want || e != api.OK {
			t.Fatalf("Civil(%d): %v %v, not %v", n*day+second, c, e, want)
		}
		if w, e := date.Day(n*day + second); w != d.week || e != api.OK {
			t.Fatalf("Day(%d): %d %v, not %d", n*day+second, w, e, d.week)
		}
		if n%97 == 0 || d.year%400 == 0 {
			tells(t, n*day, d.week, [6]int{d.year, d.month, d.day, 0, 0, 0})
		}
	})
}

func TestP13_1Chance(t *testing.T) {
	d := dice(131)
	for range 100000 {
		n := (d.roll(1<<30)<<30 + d.roll(1<<30)) % (api.MaxDateTick + 1)
		if d.roll(4) == 0 {
			n %= 100 * 365 * day
		}
		at := time.Unix(int64(n), 0).UTC()
		tells(t, n, int(at.Weekday()), [6]int{at.Year(), int(at.Month()), at.Day(), at.Hour(), at.Minute(), at.Second()})
		if s, _ := date.Show(n); s != at.Format("Mon, 2 Jan 2006 15:04:05 -0700") {
			t.Errorf("Show(%d): %q", n, s)
		}
		noTick(t, -1-n)
		noTick(t, api.MaxDateTick+1+n)
	}
}
