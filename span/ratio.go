package span

import (
	"cmp"

	"noongun/api"
)

// maxPart is how great the parts of a quotient may be that Make is given.
const maxPart = 1000000000000000000

// quotient is a fraction that need not be in lowest terms; d is not 0.
type quotient struct{ n, d int }

func (q *quotient) divide(by int) {
	q.n /= by
	q.d /= by
}

// ValidRatio reports whether a is in lowest terms and within MaxRatio.
func ValidRatio(a api.Ratio) bool {
	if a.D < 1 || a.D > api.MaxRatio || a.N < -api.MaxRatio || a.N > api.MaxRatio {
		return false
	}
	return commonDivisor(a.N, a.D) == 1
}

// Make returns n / d in lowest terms.
func Make(n, d int) (api.Ratio, api.Errno) {
	if n < -maxPart || n > maxPart || d < -maxPart || d > maxPart || d == 0 {
		return api.Ratio{}, api.ErrRange
	}
	return lowest(n, d)
}

// Add returns a + b.
func Add(a, b api.Ratio) (api.Ratio, api.Errno) {
	if !ValidRatio(a) || !ValidRatio(b) {
		return api.Ratio{}, api.ErrInvalid
	}
	return lowest(a.N*b.D+b.N*a.D, a.D*b.D)
}

// Sub returns a - b.
func Sub(a, b api.Ratio) (api.Ratio, api.Errno) {
	if !ValidRatio(a) || !ValidRatio(b) {
		return api.Ratio{}, api.ErrInvalid
	}
	return lowest(a.N*b.D-b.N*a.D, a.D*b.D)
}

// Mul returns a * b.
func Mul(a, b api.Ratio) (api.Ratio, api.Errno) {
	if !ValidRatio(a) || !ValidRatio(b) {
		return api.Ratio{}, api.ErrInvalid
	}
	return lowest(a.N*b.N, a.D*b.D)
}

// Compare returns -1, 0 or 1 as a is less than, equal to or greater than b.
func Compare(a, b api.Ratio) int {
	if !ValidRatio(a) || !ValidRatio(b) {
		return 0
	}
	return cmp.Compare(a.N*b.D, b.N*a.D)
}

// Floor returns a, rounded down.
func Floor(a api.Ratio) (int, api.Errno) {
	if !ValidRatio(a) {
		return 0, api.ErrInvalid
	}
	whole := a.N / a.D
	if a.N%a.D < 0 { // the language's quotients are rounded towards 0
		whole--
	}
	return whole, api.OK
}

// lowest returns n / d in lowest terms. Both are at most 2 * maxPart in size, so that no sign can overflow.
func lowest(n, d int) (api.Ratio, api.Errno) {
	q := &quotient{n, d}
	divide := q.divide
	if d < 0 {
		divide(-1)
	}
	divide(commonDivisor(n, d))
	if q.d > api.MaxRatio || q.n < -api.MaxRatio || q.n > api.MaxRatio {
		return api.Ratio{}, api.ErrLimit
	}
	return api.Ratio{N: q.n, D: q.d}, api.OK
}

func commonDivisor(a, b int) int {
	for b != 0 {
		a, b = b, a%b
	}
	if a < 0 {
		return -a
	}
	return a
}
