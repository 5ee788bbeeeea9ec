package span

import (
	"iter"

	"noongun/api"
)

// The calendar, from its first day (0) to its last.
const (
	firstYear    = 1700
	lastYear     = 2200
	lastDay      = 182985
	firstWeekday = 4
	leapsBefore  = 1699/4 - 1699/100 + 1699/400
)

// monthDays is how long the months are in a year that is no leap year.
var monthDays = [12]int{31, 28, 31, 30, 31, 30, 31, 31, 30, 31, 30, 31}

// Leap reports whether a year of the calendar is a leap year.
func Leap(year int) bool {
	if year < firstYear || year > lastYear {
		return false
	}
	return year%4 == 0 && (year%100 != 0 || year%400 == 0)
}

// DayOf returns the number of a date.
func DayOf(d api.Date) (int, api.Errno) {
	if !validDate(d) {
		return 0, api.ErrInvalid
	}
	day := d.Day - 1
	for month, first := range firstDays(d.Year) {
		if month == d.Month {
			day += first
			break
		}
	}
	return day, api.OK
}

// DateOf returns the date of a day.
func DateOf(day int) (api.Date, api.Errno) {
	if !inCalendar(day) {
		return api.Date{}, api.ErrRange
	}
	date := api.Date{Year: yearOf(day)}
	for month, first := range firstDays(date.Year) {
		if first > day {
			break
		}
		date.Month, date.Day = month, day-first+1
	}
	return date, api.OK
}

// Weekday returns a day's weekday (Monday is 0).
func Weekday(day int) (int, api.Errno) {
	if !inCalendar(day) {
		return 0, api.ErrRange
	}
	return (day + firstWeekday) % 7, api.OK
}

func inCalendar(day int) bool {
	return day >= 0 && day <= lastDay
}

func validDate(d api.Date) bool {
	if d.Year < firstYear || d.Year > lastYear || d.Month < 1 || d.Month > 12 {
		return false
	}
	return d.Day >= 1 && d.Day <= daysIn(d.Year, d.Month)
}

func daysIn(year, month int) int {
	if month == 2 && Leap(year) {
		return monthDays[1] + 1
	}
	return monthDays[month-1]
}

// firstDays are a year's months (from 1), each with its first day.
func firstDays(year int) iter.Seq2[int, int] {
	return func(yield func(month, first int) bool) {
		first := newYear(year)
		for month := 1; month <= 12; month++ {
			if !yield(month, first) {
				return
			}
			first += daysIn(year, month)
		}
	}
}

// newYear returns the first day of a year.
func newYear(year int) int {
	before := year - 1
	leaps := before/4 - before/100 + before/400 - leapsBefore
	return (year-firstYear)*365 + leaps
}

func yearOf(day int) int {
	year := firstYear + day/366 // never too late, as no year is longer
	for newYear(year+1) <= day {
		year++
	}
	return year
}
