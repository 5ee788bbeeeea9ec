package span

import (
	"strconv"

	"noongun/api"
)

// A year has 365.2422 mean days and one sidereal day more: these are ten-thousandths of a day.
const (
	meanPart     = 3652422
	siderealPart = 3662422
)

const (
	hour   = 3600000
	minute = 60000
	second = 1000
)

// Sidereal returns the sidereal time of a mean time, rounded down.
func Sidereal(t int) (int, api.Errno) {
	if t < 0 || t > api.MaxTime {
		return 0, api.ErrRange
	}
	return t * siderealPart / meanPart, api.OK
}

// Mean returns the mean time of a sidereal time, rounded down.
func Mean(s int) (int, api.Errno) {
	if s < 0 || s > api.MaxTime {
		return 0, api.ErrRange
	}
	return s * meanPart / siderealPart, api.OK
}

// Clock returns the text hh:mm:ss.mmm of a time of the day.
func Clock(ms int) string {
	if ms < 0 || ms >= api.Day {
		return ""
	}
	return digits(ms/hour, 2) + ":" + digits(ms/minute%60, 2) + ":" + digits(ms/second%60, 2) + "." + digits(ms%second, 3)
}

// ParseClock reads a text of Clock.
func ParseClock(s string) (int, api.Errno) {
	if len(s) != len("hh:mm:ss.mmm") {
		return 0, api.ErrSyntax
	}
	ms := number(s[0:2])*hour + number(s[3:5])*minute + number(s[6:8])*second + number(s[9:12])
	if Clock(ms) != s { // bytes that are no digits, other marks, fields too great: none of these comes back the same
		return 0, api.ErrSyntax
	}
	return ms, api.OK
}

func digits(n, width int) string {
	s := strconv.Itoa(n)
	for len(s) < width {
		s = "0" + s
	}
	return s
}

// number reads digits; of other bytes it makes some number.
func number(s string) int {
	n := 0
	for i := range len(s) {
		n = n*10 + int(s[i]) - '0'
	}
	return n
}
