package date

const (
	minuteSeconds = 60
	hourSeconds   = 60 * minuteSeconds
	daySeconds    = 24 * hourSeconds

	firstYear = 1970
	firstDay  = 4 // of the week: a Thursday
	longYear  = 366
)

var (
	dayNames   = [7]string{"Sun", "Mon", "Tue", "Wed", "Thu", "Fri", "Sat"}
	monthNames = [12]string{"Jan", "Feb", "Mar", "Apr", "May", "Jun", "Jul", "Aug", "Sep", "Oct", "Nov", "Dec"}
	monthDays  = [12]int{31, 28, 31, 30, 31, 30, 31, 31, 30, 31, 30, 31}
)

// Days are counted from 1 January 1970 on, which is 0.

// weekday also holds for days ahead of the first one, whose remainder is below 0.
func weekday(day int) int { return ((day+firstDay)%7 + 7) % 7 }

// civil is a day's year, month and day of the month.
func civil(day int) [3]int {
	// No year is longer, so that the one that is meant is this one, or a few behind it.
	year := firstYear + day/longYear
	for newYear(year+1) <= day {
		year++
	}
	left := day - newYear(year)
	month := 1
	for left >= daysOf(year, month) {
		left -= daysOf(year, month)
		month++
	}
	return [3]int{year, month, left + 1}
}

// dayOf is the day of a date that there is.
func dayOf(year, month, day int) int {
	days := newYear(year) + day - 1
	for m := 1; m < month; m++ {
		days += daysOf(year, m)
	}
	return days
}

// newYear is the first day of a year.
func newYear(year int) int { return yearsDays(year-1) - yearsDays(firstYear-1) }

// yearsDays is how many days the years from 1 up to this one have.
func yearsDays(year int) int { return 365*year + year/4 - year/100 + year/400 }

// daysOf is how many days a month has.
func daysOf(year, month int) int {
	if month == 2 && isLong(year) {
		return 29
	}
	return monthDays[month-1]
}

func isLong(year int) bool { return year%4 == 0 && (year%100 != 0 || year%400 == 0) }
