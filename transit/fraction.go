package transit

import (
	"math/bits"

	"noongun/api"
	"noongun/span"
)

// fraction is n / d, with d above 0, which need not be in lowest terms nor within MaxRatio.
type fraction struct{ n, d int }

// above reports whether a is greater than b.
func (a fraction) above(b fraction) bool {
	return b.below(a)
}

// below reports whether a is less than b.
func (a fraction) below(b fraction) bool {
	high, low := product(a.n, b.d)
	otherHigh, otherLow := product(b.n, a.d)
	return high < otherHigh || high == otherHigh && low < otherLow
}

// product returns n * d, for d above 0, in two words.
func product(n, d int) (high int64, low uint64) {
	up, low := bits.Mul64(uint64(n), uint64(d))
	if n < 0 { // its first bit was taken for 2^64 more than it is
		up -= uint64(d)
	}
	return int64(up), low
}

// reachOf returns the reach between two ends.
func reachOf(lo, hi fraction) (api.Reach, api.Errno) {
	low, lowError := span.Make(lo.n, lo.d)
	high, highError := span.Make(hi.n, hi.d)
	if lowError != api.OK || highError != api.OK {
		return api.Reach{}, api.ErrLimit
	}
	return api.Reach{Lo: low, Hi: high}, api.OK
}
