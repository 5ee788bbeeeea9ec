package span_test

import (
	"fmt"
	"math"
	"math/big"
	"regexp"
	"strings"
	"testing"

	"noongun/api"
	"noongun/span"
)

func times() []int {
	l := []int{0, 1, 2, 365, 366, 3652421, 3652422, 3652423, 3662421, 3662422, 3662423, api.Day - 1, api.Day, 987654321, 997269663168, 997269663169, 997269663170, api.MaxTime - 1, api.MaxTime}
	r := random()
	for range 5000 {
		l = append(l, r.IntN(api.MaxTime+1))
	}
	return l
}

func quotient(t, times, by int64) int {
	p := new(big.Int).Mul(big.NewInt(t), big.NewInt(times))
	return int(p.Div(p, big.NewInt(by)).Int64())
}

func TestSkyIsExact(t *testing.T) {
	for _, n := range times() {
		if s, e := span.Sidereal(n); s != quotient(int64(n), 3662422, 3652422) || e != api.OK {
			t.Fatal("Sidereal", n, s, e)
		}
		if m, e := span.Mean(n); m != quotient(int64(n), 3652422, 3662422) || e != api.OK {
			t.Fatal("Mean", n, m, e)
		}
	}
	if s, e := span.Sidereal(api.MaxTime); s != 1002737909255 || e != api.OK {
		t.Error("a sidereal time may be beyond MaxTime", s, e)
	}
	if s, e := span.Sidereal(0); s != 0 || e != api.OK {
		t.Error("Sidereal(0)", s, e)
	}
	if m, e := span.Mean(0); m != 0 || e != api.OK {
		t.Error("Mean(0)", m, e)
	}
}

func TestMeanOfSidereal(t *testing.T) {
	tried := 0
	for _, n := range times() {
		s, _ := span.Sidereal(n)
		m, e := span.Mean(s)
		if s > api.MaxTime {
			if m != 0 || e != api.ErrRange {
				t.Error("Mean beyond MaxTime", s, m, e)
			}
			continue
		}
		tried++
		if e != api.OK || m != n && m != n-1 {
			t.Fatal(n, s, m, e)
		}
	}
	if tried < 1000 {
		t.Error("hardly tried", tried)
	}
}

func TestLaterTimesAreLater(t *testing.T) {
	for _, from := range []int{0, 3652000, api.Day - 500, api.MaxTime - 1000} {
		last := -1
		for n := from; n <= from+1000; n++ {
			s, e := span.Sidereal(n)
			if e != api.OK || s <= last {
				t.Fatal(n, s, last, e)
			}
			last = s
		}
	}
}

func TestSkyOutOfRange(t *testing.T) {
	for _, n := range []int{-1, api.MaxTime + 1, 1002737909255, math.MinInt, math.MaxInt} {
		if s, e := span.Sidereal(n); s != 0 || e != api.ErrRange {
			t.Error("Sidereal", n, s, e)
		}
		if m, e := span.Mean(n); m != 0 || e != api.ErrRange {
			t.Error("Mean", n, m, e)
		}
	}
}

func clockOf(ms int) string {
	return fmt.Sprintf("%02d:%02d:%02d.%03d", ms/3600000, ms/60000%60, ms/1000%60, ms%1000)
}

func TestClockAndBack(t *testing.T) {
	try := func(ms int) {
		s := span.Clock(ms)
		if s != clockOf(ms) {
			t.Fatal("Clock", ms, s)
		}
		if n, e := span.ParseClock(s); n != ms || e != api.OK {
			t.Fatal("ParseClock", s, n, e)
		}
	}
	for ms := 0; ms < api.Day; ms += 997 {
		try(ms)
	}
	for minute := range 1440 {
		try(minute * 60000)
		try(minute*60000 + 59999)
	}
}

func TestClockOutsideTheDay(t *testing.T) {
	for _, ms := range []int{-1, -api.Day, api.Day, api.Day + 1, api.MaxTime, math.MinInt, math.MaxInt} {
		if s := span.Clock(ms); s != "" {
			t.Error(ms, s)
		}
	}
}

var clockText = regexp.MustCompile(`\A([01][0-9]|2[0-3]):[0-5][0-9]:[0-5][0-9]\.[0-9]{3}\z`)

func checkText(t *testing.T, s string) {
	t.Helper()
	n, e := span.ParseClock(s)
	if !clockText.MatchString(s) {
		if n != 0 || e != api.ErrSyntax {
			t.Errorf("ParseClock(%q) = %d, %d", s, n, e)
		}
		return
	}
	if e != api.OK || clockOf(n) != s {
		t.Errorf("ParseClock(%q) = %d, %d", s, n, e)
	}
}

// Each byte of a text becomes each other byte, is left out and is doubled.
func TestTextsThatAreNearlyClocks(t *testing.T) {
	for _, s := range []string{"00:00:00.000", "12:34:56.007", "23:59:59.999", "19:05:50.100"} {
		for i := range len(s) {
			for b := range 256 {
				checkText(t, s[:i]+string([]byte{byte(b)})+s[i+1:])
				checkText(t, s[:i]+string([]byte{byte(b)})+s[i:])
			}
			checkText(t, s[:i])
			checkText(t, s[i:])
			checkText(t, s[:i]+s[i+1:])
		}
		checkText(t, s+s)
		checkText(t, s+"\n")
	}
}

func TestTextsThatAreNoClocks(t *testing.T) {
	for _, s := range []string{
		"", " ", "0", "24:00:00.000", "23:60:00.000", "23:59:60.000", "99:99:99.999", "1:34:56.007", "012:34:56.007", "12:34:56", "12:34:56.", "12:34:56.7", "12:34:56.0070",
		"12:34:56,007", "12.34.56.007", "12:34:56:007", "-1:34:56.007", "+1:34:56.007", "-0:00:00.000", "12:-1:56.007", "12:34:56.-07", "12:34:56.07 ", " 2:34:56.007", "12:34:56.0x7",
		"\u0661\u0662:34:56.007", "\uff11:34:56.007", "\x0012:34:56.007", "12:34:56.007\x00", "::........", strings.Repeat("0", 12), strings.Repeat(":", 12), strings.Repeat("\xff", 12), strings.Repeat("12:34:56.007", 10000),
	} {
		if clockText.MatchString(s) {
			t.Fatalf("%q is a text of Clock", s)
		}
		checkText(t, s)
	}
}
