// Package civil converts between day numbers and dates of the proleptic
// Gregorian calendar. It is layer 1 of the document.
package civil

import "annalist/api"

const (
	// firstYear is the year that begins with day 0.
	firstYear = 1600
	// cycleYears is the number of years after which the calendar repeats, and
	// cycleDays is their number of days.
	cycleYears = 400
	cycleDays  = 146097
)

// IsLeap reports whether the year has a 29 February.
func IsLeap(year int) bool {
	return year%4 == 0 && year%100 != 0 || year%400 == 0
}

// DaysInMonth returns the number of days of a month, or 0 if there is no such
// month.
func DaysInMonth(year, month int) int {
	switch month {
	case 1, 3, 5, 7, 8, 10, 12:
		return 31
	case 4, 6, 9, 11:
		return 30
	case 2:
		if IsLeap(year) {
			return 29
		}
		return 28
	}
	return 0
}

// FromDate returns the day number of a date, and whether the date is a day.
func FromDate(year, month, day int) (int, bool) {
	// A year has at least 365 days, so a year beyond this bound starts after
	// the last day; excluding it here keeps the sums below from overflowing.
	if year < firstYear || year-firstYear > api.Forever/365 {
		return 0, false
	}
	if day < 1 || day > DaysInMonth(year, month) {
		return 0, false
	}
	number := firstDayOfYear(year) + day - 1
	for m := 1; m < month; m++ {
		number += DaysInMonth(year, m)
	}
	if !isDay(number) {
		return 0, false
	}
	return number, true
}

// ToDate returns the date of a day, and whether it is a day.
func ToDate(day int) (year, month, dayOfMonth int, ok bool) {
	if !isDay(day) {
		return 0, 0, 0, false
	}
	year = yearOf(day)
	month = 1
	rest := day - firstDayOfYear(year)
	for rest >= DaysInMonth(year, month) {
		rest -= DaysInMonth(year, month)
		month++
	}
	return year, month, rest + 1, true
}

// Weekday returns 1 for Monday up to 7 for Sunday, or 0 if day is not a day.
func Weekday(day int) int {
	if !isDay(day) {
		return 0
	}
	// Day 0 is a Saturday, five days after a Monday.
	return (day+5)%7 + 1
}

// AddMonths returns the day that lies the given number of months later, moved
// back to the end of its month if that month is too short.
func AddMonths(day, months int) (int, bool) {
	year, month, dayOfMonth, ok := ToDate(day)
	if !ok {
		return 0, false
	}
	// There are fewer months than days, so a larger distance leaves the
	// calendar; excluding it here keeps the sum below from overflowing.
	if months < -api.Forever || months > api.Forever {
		return 0, false
	}
	count := (year-firstYear)*12 + month - 1 + months
	if count < 0 {
		return 0, false
	}
	year, month = firstYear+count/12, count%12+1
	return FromDate(year, month, min(dayOfMonth, DaysInMonth(year, month)))
}

func isDay(number int) bool {
	return number >= 0 && number < api.Forever
}

// firstDayOfYear returns the number of 1 January of a year from firstYear on.
func firstDayOfYear(year int) int {
	n := year - firstYear
	// The quotients are rounded up because firstYear itself is a leap year.
	return 365*n + (n+3)/4 - (n+99)/100 + (n+399)/400
}

// yearOf returns the year that contains the day.
func yearOf(day int) int {
	// A year starts less than one day before, and less than two days after, the
	// point where years of average length would put it. Hence the estimate for
	// the following day is the year itself or the one after it.
	year := firstYear + (day+1)*cycleYears/cycleDays
	if firstDayOfYear(year) > day {
		year--
	}
	return year
}
