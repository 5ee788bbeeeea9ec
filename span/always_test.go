package span_test

import (
	"fmt"
	"strings"
	"testing"

	"noongun/api"
	"noongun/span"
)

// outcome is what a call returned, and whether with an error (or the false of a list) all else was zero.
type outcome struct {
	text string
	zero bool
}

func with[T comparable](result T, e api.Errno) outcome {
	var none T
	return outcome{fmt.Sprint(result, e), e == api.OK || result == none}
}

func alone[T any](result T) outcome {
	return outcome{fmt.Sprint(result), true}
}

// ofNumbers are the calls whose arguments are made of up to four numbers.
func ofNumbers(a, b, c, d int) []outcome {
	r, q := api.Ratio{N: a, D: b}, api.Ratio{N: c, D: d}
	s, u := api.Span{Lo: a, Hi: b}, api.Span{Lo: c, Hi: d}
	return []outcome{
		alone(span.ValidRatio(r)), with(span.Make(a, b)), with(span.Add(r, q)), with(span.Sub(r, q)), with(span.Mul(r, q)),
		alone(span.Compare(r, q)), with(span.Floor(r)),
		alone(span.ValidSpan(s)), with(span.Sum(s, u)), with(span.Opposite(s)), with(span.Scaled(s, q)), with(span.Meet(s, u)), with(span.Hull(s, u)), with(span.Wider(s, c)),
	}
}

// ofTimes are the calls whose arguments are made of up to three numbers.
func ofTimes(a, b, c int) []outcome {
	return []outcome{
		alone(span.Leap(a)), with(span.DayOf(api.Date{Year: a, Month: b, Day: c})), with(span.DateOf(a)), with(span.Weekday(a)),
		with(span.Sidereal(a)), with(span.Mean(a)), alone(span.Clock(a)),
	}
}

func checkTwice(t *testing.T, call func() []outcome, arguments ...int) {
	t.Helper()
	first, second := call(), call()
	for i := range first {
		if !first[i].zero {
			t.Fatal("a result beside an error", i, arguments, first[i].text)
		}
		if first[i] != second[i] {
			t.Fatal("not the same again", i, arguments, first[i].text, second[i].text)
		}
	}
}

// No call panics, each ends, each does the same again, and errors come alone.
func TestAnyArguments(t *testing.T) {
	some := append([]int{1700, 1704, 2200, 12, 28, 29, 31, lastDay, lastDay + 1, api.Day - 1, api.Day}, extremes...)
	for _, a := range some {
		for _, b := range some {
			for _, c := range some {
				checkTwice(t, func() []outcome { return ofTimes(a, b, c) }, a, b, c)
			}
		}
	}
	few := append([]int{extremes[0], extremes[len(extremes)-1]}, -api.MaxTime-1, -api.MaxTime, -api.MaxRatio, -1, 0, 1, 2, api.MaxRatio, api.MaxTime, api.MaxTime+1)
	for _, a := range few {
		for _, b := range few {
			for _, c := range few {
				for _, d := range few {
					checkTwice(t, func() []outcome { return ofNumbers(a, b, c, d) }, a, b, c, d)
				}
			}
		}
	}
}

func TestAnyTexts(t *testing.T) {
	for _, s := range []string{"", "\x00", "\xff\xfe", "12:34:56.007", strings.Repeat("9", api.MaxText+1), strings.Repeat("12:34:56.007\n", 100000)} {
		first, second := with(span.ParseClock(s)), with(span.ParseClock(s))
		if !first.zero || first != second {
			t.Error(len(s), first.text, second.text)
		}
	}
}

func TestExamples(t *testing.T) {
	if day, e := span.DayOf(api.Date{Year: 1700, Month: 3, Day: 1}); day != 59 || e != api.OK {
		t.Error("the 1st of March 1700", day, e)
	}
	if s, e := span.Scaled(api.Span{Lo: 1, Hi: 2}, api.Ratio{N: -1, D: 3}); s != (api.Span{Lo: -1, Hi: 0}) || e != api.OK {
		t.Error("Scaled", s, e)
	}
	if s, e := span.Sidereal(86400000); s != 86636555 || e != api.OK {
		t.Error("Sidereal", s, e)
	}
	if s := span.Clock(45296007); s != "12:34:56.007" {
		t.Error("Clock", s)
	}
}
