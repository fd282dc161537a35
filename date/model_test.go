package date_test

import (
	"fmt"
	"regexp"
	"strings"
	"sync"

	"waybill/api"
)

const (
	weekNames  = "SunMonTueWedThuFriSat"
	monthNames = "JanFebMarAprMayJunJulAugSepOctNovDec"
)

// modelLength is how many days a month has.
func modelLength(year, month int) int {
	switch month {
	case 4, 6, 9, 11:
		return 30
	case 2:
		if year%400 == 0 || year%4 == 0 && year%100 != 0 {
			return 29
		}
		return 28
	}
	return 31
}

// civilDay is a day of the calendar: its date, its day of the week.
type civilDay struct{ year, month, day, week int }

// eachDay calls do with the days from 1 January 1970 to 31 December 9999, one after the other.
func eachDay(do func(n int, d civilDay)) {
	n, week := 0, 4
	for year := 1970; year < 10000; year++ {
		for month := 1; month <= 12; month++ {
			for d := 1; d <= modelLength(year, month); d++ {
				do(n, civilDay{year, month, d, week})
				n++
				week = (week + 1) % 7
			}
		}
	}
}

// firstDays is the first day of each month, counted from 1 January 1970 on; of those ahead of it just the last one is there.
var firstDays = sync.OnceValue(func() map[[2]int]int {
	m := map[[2]int]int{{1969, 12}: -31}
	eachDay(func(n int, d civilDay) {
		if d.day == 1 {
			m[[2]int{d.year, d.month}] = n
		}
	})
	return m
})

func modelText(week int, c [6]int) string {
	return fmt.Sprintf("%s, %d %s %04d %02d:%02d:%02d +0000", weekNames[3*week:][:3], c[2], monthNames[3*c[1]-3:][:3], c[0], c[3], c[4], c[5])
}

var form = regexp.MustCompile(`^ *(?:([A-Za-z]{3}), +)?([0-9]{1,2}) +([A-Za-z]{3}) +([0-9]{4}) +([0-9]{2}):([0-9]{2})(?::([0-9]{2}))? +(?:([+-])([0-9]{2})([0-9]{2})|[Gg][Mm][Tt]|[Uu][Tt]) *$`)

func number(s string) (n int) {
	for _, c := range s {
		n = 10*n + int(c-'0')
	}
	return n
}

// modelName is a name's place among those of three letters, or -1.
func modelName(names, s string) int {
	for i := 0; i < len(names); i += 3 {
		if strings.ToLower(names[i:i+3]) == strings.ToLower(s) {
			return i / 3
		}
	}
	return -1
}

// modelParse is what a text is read as.
func modelParse(s string) (tick int, is bool) {
	l := form.FindStringSubmatch(s)
	if l == nil {
		return 0, false
	}
	d, month, year := number(l[2]), modelName(monthNames, l[3])+1, number(l[4])
	hour, minute, second := number(l[5]), number(l[6]), number(l[7])
	if month == 0 || d < 1 || d > modelLength(year, month) || hour > 23 || minute > 59 || second > 59 || number(l[9]) > 23 || number(l[10]) > 59 {
		return 0, false
	}
	first, there := firstDays()[[2]int{year, month}]
	if !there {
		return 0, false
	}
	n := first + d - 1
	if l[1] != "" && modelName(weekNames, l[1]) != (n+4+7*100)%7 {
		return 0, false
	}
	tick = n*day + hour*3600 + minute*60 + second
	ahead := number(l[9])*3600 + number(l[10])*60
	if l[8] == "-" {
		ahead = -ahead
	}
	tick -= ahead
	return tick, tick >= 0 && tick <= api.MaxDateTick
}
