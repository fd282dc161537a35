package date

import (
	"strings"

	"waybill/api"
)

// Parse reads one.
func Parse(s string) (int, api.Errno) {
	name, rest := cutName(s)
	day, rest := next(rest)
	month, rest := next(rest)
	year, rest := next(rest)
	clock, rest := next(rest)
	zone, rest := next(rest)
	days, isDate := readDate(day, month, year)
	second, isClock := readClock(clock)
	ahead, isZone := readZone(zone)
	tick := days*daySeconds + second - ahead
	if !isDate || !isClock || !isZone || !names(name, days) || !isTick(tick) || strings.TrimLeft(rest, " ") != "" {
		return 0, api.ErrDateForm
	}
	return tick, api.OK
}

// next cuts off what stands ahead of the next blank: nothing, if just blanks are left.
func next(s string) (thing, rest string) {
	thing, rest, _ = strings.Cut(strings.TrimLeft(s, " "), " ")
	return thing, rest
}

// cutName cuts off a day's name with its comma, if a comma ends the first thing.
func cutName(s string) (name, rest string) {
	if thing, rest := next(s); strings.HasSuffix(thing, ",") {
		return thing, rest
	}
	return "", s
}

// names tells whether a day is called so; it may go without a name.
func names(name string, day int) bool {
	return name == "" || lower(name) == lower(dayNames[weekday(day)])+","
}

func readDate(day, month, year string) (days int, is bool) {
	if len(day) == 1 {
		day = "0" + day
	}
	d, isDay := digits(day, 2)
	m, isMonth := monthOf(month)
	y, isYear := digits(year, 4)
	if !isDay || !isMonth || !isYear || d < 1 || d > daysOf(y, m) {
		return 0, false
	}
	return dayOf(y, m, d), true
}

// monthOf is the month that is called so, from 1 on.
func monthOf(name string) (month int, is bool) {
	name = lower(name)
	for i, other := range monthNames {
		if name == lower(other) {
			return i + 1, true
		}
	}
	return 0, false
}

func readClock(s string) (seconds int, is bool) {
	if len(s) == len("00:00") {
		s += ":00"
	}
	if len(s) != len("00:00:00") || s[2] != ':' || s[5] != ':' {
		return 0, false
	}
	second, isSecond := digits(s[6:], 2)
	hours, isTime := readTime(s[:2], s[3:5])
	if !isSecond || !isTime || second > 59 {
		return 0, false
	}
	return hours + second, true
}

// readZone is how many seconds a zone's clock goes ahead.
func readZone(s string) (seconds int, is bool) {
	if l := lower(s); l == "gmt" || l == "ut" {
		return 0, true
	}
	if len(s) != len("+0000") || s[0] != '+' && s[0] != '-' {
		return 0, false
	}
	seconds, is = readTime(s[1:3], s[3:])
	if s[0] == '-' {
		seconds = -seconds
	}
	return seconds, is
}

// readTime is the seconds of an hour and a minute.
func readTime(hour, minute string) (seconds int, is bool) {
	h, isHour := digits(hour, 2)
	m, isMinute := digits(minute, 2)
	if !isHour || !isMinute || h > 23 || m > 59 {
		return 0, false
	}
	return h*hourSeconds + m*minuteSeconds, true
}

// digits is the number of just so many digits.
func digits(s string, size int) (n int, is bool) {
	if len(s) != size {
		return 0, false
	}
	for i := range size {
		if s[i] < '0' || s[i] > '9' {
			return 0, false
		}
		n = 10*n + int(s[i]-'0')
	}
	return n, true
}

// lower turns the letters A to Z alone: other runes whose lower form is such a letter are none of them.
func lower(s string) string {
	b := []byte(s)
	for i, c := range b {
		if c >= 'A' && c <= 'Z' {
			b[i] = c + 'a' - 'A'
		}
	}
	return string(b)
}
