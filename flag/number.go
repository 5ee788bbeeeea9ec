package flag

import (
	"slices"
	"strconv"

	"noongun/api"
)

const (
	maxNumber = 9999
	farthest  = 4 // the distance of Numbers with texts of different lengths
)

// Digits returns the digits of a Number.
func Digits(n int) ([]int, api.Errno) {
	if !isNumber(n) {
		return nil, api.ErrRange
	}
	return digitsOf(n), api.OK
}

// Number returns the Number that digits are.
func Number(l []int) (int, api.Errno) {
	if !ValidDigits(l) {
		return 0, api.ErrInvalid
	}
	return numberOf(l), api.OK
}

// Turned returns digits in the opposite order.
func Turned(l []int) ([]int, api.Errno) {
	if !ValidDigits(l) {
		return nil, api.ErrInvalid
	}
	return turned(l), api.OK
}

// Checked returns digits with one more, so that their sum is a multiple of 10.
func Checked(l []int) ([]int, api.Errno) {
	if !ValidDigits(l) {
		return nil, api.ErrInvalid
	}
	if len(l) == api.MaxHoist {
		return nil, api.ErrRange
	}
	last := (10 - sum(l)%10) % 10
	return append(slices.Clone(l), last), api.OK
}

// Right reports whether the sum of digits is a multiple of 10.
func Right(l []int) (bool, api.Errno) {
	if !ValidDigits(l) {
		return false, api.ErrInvalid
	}
	return sum(l)%10 == 0, api.OK
}

// Distance returns the distance of two Numbers.
func Distance(a, b int) (int, api.Errno) {
	if !isNumber(a) || !isNumber(b) {
		return 0, api.ErrRange
	}
	return distance(a, b), api.OK
}

func distance(a, b int) int {
	s, t := strconv.Itoa(a), strconv.Itoa(b)
	if len(s) != len(t) {
		return farthest
	}
	n := 0
	for i := range len(s) {
		if s[i] != t[i] {
			n++
		}
	}
	return n
}

// digitsOf returns the digits of a Number that is in its range.
func digitsOf(n int) []int {
	text := strconv.Itoa(n)
	l := make([]int, len(text))
	for i := range len(text) {
		l[i] = int(text[i] - '0')
	}
	return l
}

func numberOf(digits []int) int {
	n := 0
	for _, d := range digits {
		n = 10*n + d
	}
	return n
}

func turned(l []int) []int {
	t := slices.Clone(l)
	slices.Reverse(t)
	return t
}

func sum(l []int) int {
	n := 0
	for _, d := range l {
		n += d
	}
	return n
}

func isNumber(n int) bool {
	return n >= 0 && n <= maxNumber
}
