package span_test

import (
	"math"
	"testing"
	"time"

	"noongun/api"
	"noongun/span"
)

const lastDay = 182985

func TestLeap(t *testing.T) {
	for year, want := range map[int]bool{1700: false, 1704: true, 1800: false, 1896: true, 1900: false, 1999: false, 2000: true, 2100: false, 2196: true, 2200: false} {
		if span.Leap(year) != want {
			t.Error(year, !want)
		}
	}
	leaps := 0
	for year := 1700; year <= 2200; year++ {
		if span.Leap(year) {
			leaps++
		}
	}
	if leaps != lastDay+1-501*365 {
		t.Error("leap years", leaps)
	}
	for _, year := range []int{1699, 1696, 1600, 2201, 2204, 2400, 0, 4, -4, math.MinInt, math.MaxInt, math.MaxInt - 3} {
		if span.Leap(year) {
			t.Error("a leap year that is not in the calendar", year)
		}
	}
}

// The time package's calendar is Gregorian too, and was written apart from this one.
func TestTheWholeCalendar(t *testing.T) {
	at := time.Date(1700, time.January, 1, 0, 0, 0, 0, time.UTC)
	for day := 0; day <= lastDay; day++ {
		want := api.Date{Year: at.Year(), Month: int(at.Month()), Day: at.Day()}
		if d, e := span.DateOf(day); d != want || e != api.OK {
			t.Fatal("DateOf", day, d, e)
		}
		if n, e := span.DayOf(want); n != day || e != api.OK {
			t.Fatal("DayOf", want, n, e)
		}
		if w, e := span.Weekday(day); w != (int(at.Weekday())+6)%7 || e != api.OK {
			t.Fatal("Weekday", day, w, e)
		}
		at = at.AddDate(0, 0, 1)
	}
	if at.Year() != 2201 || at.YearDay() != 1 {
		t.Error("the calendar ends before", at)
	}
}

func TestKnownDays(t *testing.T) {
	for day, d := range map[int]api.Date{
		0:       {Year: 1700, Month: 1, Day: 1},
		58:      {Year: 1700, Month: 2, Day: 28},
		59:      {Year: 1700, Month: 3, Day: 1},
		364:     {Year: 1700, Month: 12, Day: 31},
		365:     {Year: 1701, Month: 1, Day: 1},
		1520:    {Year: 1704, Month: 3, Day: 1},
		109631:  {Year: 2000, Month: 2, Day: 29},
		lastDay: {Year: 2200, Month: 12, Day: 31},
	} {
		if n, e := span.DayOf(d); n != day || e != api.OK {
			t.Error("DayOf", d, n, e)
		}
		if got, e := span.DateOf(day); got != d || e != api.OK {
			t.Error("DateOf", day, got, e)
		}
	}
}

func TestWeekdaysGoRound(t *testing.T) {
	want := 4
	for day := range 1000 {
		if w, e := span.Weekday(day); w != want || e != api.OK {
			t.Fatal(day, w, e)
		}
		want = (want + 1) % 7
	}
}

func TestDaysOutOfRange(t *testing.T) {
	for _, day := range []int{-1, lastDay + 1, math.MinInt, math.MaxInt} {
		if d, e := span.DateOf(day); d != (api.Date{}) || e != api.ErrRange {
			t.Error("DateOf", day, d, e)
		}
		if w, e := span.Weekday(day); w != 0 || e != api.ErrRange {
			t.Error("Weekday", day, w, e)
		}
	}
}

func TestLastDaysOfMonths(t *testing.T) {
	for _, year := range []int{1700, 1704, 1900, 1999, 2000, 2100, 2200} {
		for month := 1; month <= 12; month++ {
			last := time.Date(year, time.Month(month)+1, 0, 0, 0, 0, 0, time.UTC).Day()
			for day := -1; day <= 33; day++ {
				n, e := span.DayOf(api.Date{Year: year, Month: month, Day: day})
				if valid := day >= 1 && day <= last; valid != (e == api.OK) || !valid && (n != 0 || e != api.ErrInvalid) {
					t.Error(year, month, day, n, e)
				}
			}
		}
	}
}

func TestInvalidDates(t *testing.T) {
	for _, d := range []api.Date{
		{}, {Year: 1699, Month: 12, Day: 31}, {Year: 2201, Month: 1, Day: 1}, {Year: 1800, Month: 0, Day: 1}, {Year: 1800, Month: 13, Day: 1}, {Year: 1800, Month: -1, Day: 1},
		{Year: 1700, Month: 2, Day: 29}, {Year: 1900, Month: 2, Day: 29}, {Year: 2100, Month: 2, Day: 29}, {Year: 2200, Month: 2, Day: 29}, {Year: 2000, Month: 2, Day: 30},
	} {
		if n, e := span.DayOf(d); n != 0 || e != api.ErrInvalid {
			t.Error(d, n, e)
		}
	}
	for _, n := range []int{math.MinInt, math.MaxInt} {
		for _, d := range []api.Date{{Year: n, Month: 1, Day: 1}, {Year: 1800, Month: n, Day: 1}, {Year: 1800, Month: 1, Day: n}, {Year: n, Month: n, Day: n}} {
			if day, e := span.DayOf(d); day != 0 || e != api.ErrInvalid {
				t.Error(d, day, e)
			}
		}
	}
}
