package flag

import (
	"iter"
	"slices"

	"noongun/api"
)

// Hoists returns all hoists of a number with flags of a set.
func Hoists(digits []int, flags int) ([][]int, api.Errno) {
	if e := check(digits, flags); e != api.OK {
		return nil, e
	}
	return slices.Collect(hoistsOf(digits, flags)), api.OK
}

// With returns the first hoist of a number with flags of a set.
func With(digits []int, flags int) ([]int, api.Errno) {
	if e := check(digits, flags); e != api.OK {
		return nil, e
	}
	for h := range hoistsOf(digits, flags) {
		return h, api.OK
	}
	return nil, api.ErrFlag
}

// Can returns how many numbers with a length can be hoisted with flags of a set.
func Can(length, flags int) (int, api.Errno) {
	if !isLength(length) || !isSet(flags) {
		return 0, api.ErrRange
	}
	// No number has two hoists: the first of equal digits is always its numeral, and each other one the substitute
	// of the one next above it, as those of the ones further above are used. So the hoists are as many as the numbers.
	count := 0
	for range hoists(length, flags, func(int, int) bool { return true }) {
		count++
	}
	return count, api.OK
}

// Missed returns the flags each of which is all that a set lacks for a number.
func Missed(digits []int, flags int) ([]int, api.Errno) {
	if e := check(digits, flags); e != api.OK {
		return nil, e
	}
	if isPossible(digits, flags) {
		return nil, api.ErrState
	}
	var missed []int
	for f := range flagCount {
		if isPossible(digits, plus(flags, f)) {
			missed = append(missed, f)
		}
	}
	return missed, api.OK
}

func check(digits []int, flags int) api.Errno {
	if !ValidDigits(digits) {
		return api.ErrInvalid
	}
	if !isSet(flags) {
		return api.ErrRange
	}
	return api.OK
}

func isPossible(digits []int, flags int) bool {
	_, e := With(digits, flags)
	return e == api.OK
}

// hoistsOf are the hoists of a number with flags of a set, in ascending order.
func hoistsOf(digits []int, flags int) iter.Seq[[]int] {
	return hoists(len(digits), flags, func(place, digit int) bool { return digits[place] == digit })
}

// hoists are the valid hoists with a length and flags of a set that mean a digit that is wanted at each place (from 0), in ascending order.
func hoists(length, flags int, wanted func(place, digit int) bool) iter.Seq[[]int] {
	return func(yield func([]int) bool) {
		var hang func(h, digits []int, left int) bool
		hang = func(h, digits []int, left int) bool {
			place := len(h)
			if place == length {
				return yield(slices.Clone(h))
			}
			for f := range flagCount {
				if !has(left, f) || !mayStand(f, place) {
					continue
				}
				digit := meaning(f, digits)
				if wanted(place, digit) && !hang(append(h, f), append(digits, digit), minus(left, f)) {
					return false
				}
			}
			return true
		}
		hang(nil, nil, flags)
	}
}
