package ledger

import (
	"noongun/api"
	"noongun/span"
)

// Sum returns the sum of the offs of a stretch of days.
func Sum(l []api.Entry, from, to int) (int, api.Errno) {
	offs, e := offsOf(l, from, to)
	return sum(offs...), e
}

// Mean returns the mean of the offs of a stretch of days.
func Mean(l []api.Entry, from, to int) (api.Ratio, api.Errno) {
	offs, e := offsOf(l, from, to)
	if e != api.OK {
		return api.Ratio{}, e
	}
	if len(offs) == 0 {
		return api.Ratio{}, api.ErrNone
	}
	return span.Make(sum(offs...), len(offs))
}

// Worst returns the first one of the days with the greatest off.
func Worst(l []api.Entry) (int, api.Errno) {
	r, e := recordOf(l)
	if e != api.OK {
		return 0, e
	}
	worst, greatest := 0, -1
	for day, off := range r.offs(all) {
		if size(off) > greatest {
			worst, greatest = day, size(off)
		}
	}
	if greatest < 0 {
		return 0, api.ErrNone
	}
	return worst, api.OK
}

// Streak returns the first one of the longest stretches of days whose offs are all small: its first day, and how many there are.
func Streak(l []api.Entry, within int) (from, length int, e api.Errno) {
	r, e := recordOf(l)
	if e != api.OK {
		return 0, 0, e
	}
	if !isBound(within) {
		return 0, 0, api.ErrRange
	}
	first, next := 0, -1
	for day := range r.offs(func(day, off int) bool { return size(off) <= within }) {
		if day != next {
			first = day
		}
		next = day + 1
		if next-first > length {
			from, length = first, next-first
		}
	}
	if length == 0 {
		return 0, 0, api.ErrNone
	}
	return from, length, api.OK
}

// Letters returns the days whose offs are above a bound.
func Letters(l []api.Entry, within int) ([]int, api.Errno) {
	r, e := recordOf(l)
	if e != api.OK {
		return nil, e
	}
	if !isBound(within) {
		return nil, api.ErrRange
	}
	return daysOf(r.offs(func(day, off int) bool { return size(off) > within })), api.OK
}

// Rated returns by how much a ship is wrong that rated its clock from the signals of two days.
func Rated(l []api.Entry, from, to int) (int, api.Errno) {
	r, e := recordOf(l)
	if e != api.OK {
		return 0, e
	}
	if !isDay(from) || !isDay(to) || from >= to {
		return 0, api.ErrRange
	}
	first, atFirst := r.off(from)
	second, atSecond := r.off(to)
	if !atFirst || !atSecond {
		return 0, api.ErrNone
	}
	return second - first, api.OK
}

// Fine returns what all days of Letters cost.
func Fine(l []api.Entry, within, pence int) (int, api.Errno) {
	days, e := Letters(l, within)
	if e != api.OK {
		return 0, e
	}
	if pence < 0 || pence > mostPence {
		return 0, api.ErrRange
	}
	return len(days) * pence, api.OK
}

// offsOf returns the offs of a stretch of days.
func offsOf(l []api.Entry, from, to int) ([]int, api.Errno) {
	r, e := recordOf(l)
	if e != api.OK {
		return nil, e
	}
	if !isDay(from) || !isDay(to) || from > to {
		return nil, api.ErrRange
	}
	var offs []int
	for _, off := range r.offs(func(day, off int) bool { return from <= day && day <= to }) {
		offs = append(offs, off)
	}
	return offs, api.OK
}

func sum(offs ...int) int {
	total := 0
	for _, off := range offs {
		total += off
	}
	return total
}

func size(off int) int {
	return max(off, -off)
}

func isBound(n int) bool {
	return n >= 0 && n <= api.Day
}
