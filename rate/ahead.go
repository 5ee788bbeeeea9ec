package rate

import (
	"noongun/api"
	"noongun/span"
)

const (
	maxTemperature = 50000
	maxWarmRate    = 100000
	maxDaysRate    = 1000000
	maxUncertain   = 1000000000
	arcOfTime      = 15 // seconds of arc in a second
	thousand       = 1000
)

// Ahead returns the span of a box's error some days after its last one, by its last daily rates.
func Ahead(b api.Box, last, days int) (api.Span, api.Errno) {
	if !ValidBox(b) {
		return api.Span{}, api.ErrInvalid
	}
	if last < 1 || days < 1 || days > api.MaxDays {
		return api.Span{}, api.ErrRange
	}
	end := len(b.Errors) - 1
	if last > end {
		return api.Span{}, api.ErrNone
	}
	least, greatest := ends(steps(b.Errors[end-last:]))
	s := api.Span{Lo: b.Errors[end] + days*least, Hi: b.Errors[end] + days*greatest}
	if !span.ValidSpan(s) {
		return api.Span{}, api.ErrLimit
	}
	return s, api.OK
}

// Warm returns the rate at a temperature, on the straight line through two others with their rates.
func Warm(t1, r1, t2, r2, t int) (api.Ratio, api.Errno) {
	for _, n := range []int{t1, t2, t} {
		if !within(n, maxTemperature) {
			return api.Ratio{}, api.ErrRange
		}
	}
	if t1 == t2 || !within(r1, maxWarmRate) || !within(r2, maxWarmRate) {
		return api.Ratio{}, api.ErrRange
	}
	return span.Make(r1*(t2-t1)+(r2-r1)*(t-t1), t2-t1)
}

// Arc returns the seconds of arc of a time, and the thousandths left.
func Arc(ms int) (seconds, rest int, e api.Errno) {
	if !within(ms, api.MaxTime) {
		return 0, 0, api.ErrRange
	}
	thousandths := arcOfTime * size(ms)
	return thousandths / thousand, thousandths % thousand, api.OK
}

// Days returns after how many days an error may be uncertain by more than a number.
func Days(r api.Span, most int) (int, api.Errno) {
	if !span.ValidSpan(r) {
		return 0, api.ErrInvalid
	}
	if !within(r.Lo, maxDaysRate) || !within(r.Hi, maxDaysRate) || most < 0 || most > maxUncertain {
		return 0, api.ErrRange
	}
	width := r.Hi - r.Lo
	if width*api.MaxDays <= most {
		return 0, api.ErrNone
	}
	return most/width + 1, api.OK
}
