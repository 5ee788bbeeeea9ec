// Package span is layer 1: see shared/doc/01-span.md.
package span

import (
	"math/bits"

	"noongun/api"
)

// ValidSpan reports whether s has its ends in order and within MaxTime.
func ValidSpan(s api.Span) bool {
	return -api.MaxTime <= s.Lo && s.Lo <= s.Hi && s.Hi <= api.MaxTime
}

// Sum returns the span of all sums of a number of a and one of b.
func Sum(a, b api.Span) (api.Span, api.Errno) {
	if !allValid(a, b) {
		return api.Span{}, api.ErrInvalid
	}
	return limited(a.Lo+b.Lo, a.Hi+b.Hi)
}

// Opposite returns the span of all opposites of numbers of a.
func Opposite(a api.Span) (api.Span, api.Errno) {
	if !allValid(a) {
		return api.Span{}, api.ErrInvalid
	}
	return api.Span{Lo: -a.Hi, Hi: -a.Lo}, api.OK
}

// Scaled returns the least span that has all products of a number of a with r.
func Scaled(a api.Span, r api.Ratio) (api.Span, api.Errno) {
	if !allValid(a) || !ValidRatio(r) {
		return api.Span{}, api.ErrInvalid
	}
	if r.N < 0 { // the least product is that of the greatest number
		a.Lo, a.Hi = a.Hi, a.Lo
	}
	lo, low := productDown(a.Lo, r)
	hi, high := productDown(-a.Hi, r) // rounding up is rounding the opposite down
	if !low || !high {
		return api.Span{}, api.ErrLimit
	}
	return limited(lo, -hi)
}

// Meet returns the span that a and b both have.
func Meet(a, b api.Span) (api.Span, api.Errno) {
	if !allValid(a, b) {
		return api.Span{}, api.ErrInvalid
	}
	both := api.Span{Lo: max(a.Lo, b.Lo), Hi: min(a.Hi, b.Hi)}
	if both.Lo > both.Hi {
		return api.Span{}, api.ErrNone
	}
	return both, api.OK
}

// Hull returns the least span that has both a and b.
func Hull(a, b api.Span) (api.Span, api.Errno) {
	if !allValid(a, b) {
		return api.Span{}, api.ErrInvalid
	}
	return api.Span{Lo: min(a.Lo, b.Lo), Hi: max(a.Hi, b.Hi)}, api.OK
}

// Wider returns the span that goes further than a at both ends.
func Wider(a api.Span, by int) (api.Span, api.Errno) {
	if !allValid(a) {
		return api.Span{}, api.ErrInvalid
	}
	if by < 0 {
		return api.Span{}, api.ErrRange
	}
	if by > api.MaxTime { // no span has room for that, and the sums below might overflow
		return api.Span{}, api.ErrLimit
	}
	return limited(a.Lo-by, a.Hi+by)
}

func allValid(spans ...api.Span) bool {
	for _, s := range spans {
		if !ValidSpan(s) {
			return false
		}
	}
	return true
}

// limited returns the span of two ends that are in order.
func limited(lo, hi int) (api.Span, api.Errno) {
	if lo < -api.MaxTime || hi > api.MaxTime {
		return api.Span{}, api.ErrLimit
	}
	return api.Span{Lo: lo, Hi: hi}, api.OK
}

// productDown returns x * r rounded down, or false if that is beyond MaxTime even when its fraction is left out. The product has up to 70 bits, so it is taken in two words.
func productDown(x int, r api.Ratio) (int, bool) {
	below := (x < 0) != (r.N < 0)
	high, low := bits.Mul64(size(x), size(r.N))
	if high >= uint64(r.D) { // the quotient would not fit into one word
		return 0, false
	}
	whole, rest := bits.Div64(high, low, uint64(r.D))
	if whole > api.MaxTime {
		return 0, false
	}
	if !below {
		return int(whole), true
	}
	if rest > 0 {
		whole++
	}
	return -int(whole), true
}

func size(n int) uint64 {
	if n < 0 {
		return uint64(-n)
	}
	return uint64(n)
}
