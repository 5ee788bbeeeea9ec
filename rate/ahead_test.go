package rate_test

import (
	"math"
	"math/big"
	"slices"
	"testing"

	"noongun/api"
	"noongun/rate"
)

func TestAhead(t *testing.T) {
	for _, c := range []struct {
		b          api.Box
		last, days int
		want       api.Span
		e          api.Errno
	}{
		{example(), 1, 1, api.Span{Lo: 113, Hi: 113}, api.OK}, {example(), 7, 10, api.Span{Lo: 185, Hi: 185}, api.OK}, {example(), 8, 10, api.Span{Lo: 175, Hi: 185}, api.OK}, {example(), 14, 400, api.Span{Lo: 2905, Hi: 3305}, api.OK},
		{box("a", 3, 1), 1, 5, api.Span{Lo: -9, Hi: -9}, api.OK}, {box("a", 0, -5, 4), 2, 3, api.Span{Lo: -11, Hi: 31}, api.OK}, {box("a", 0, -5, 4), 1, 3, api.Span{Lo: 31, Hi: 31}, api.OK}, {box("a", 0, 9, 4), 2, 1, api.Span{Lo: -1, Hi: 13}, api.OK},
		{box("a", -api.Day, api.Day), 1, 400, api.Span{Lo: 69206400000, Hi: 69206400000}, api.OK}, {box("a", -api.Day, api.Day, -api.Day), 2, 400, api.Span{Lo: -69206400000, Hi: 69033600000}, api.OK},
		{example(), 15, 1, api.Span{}, api.ErrNone}, {box("a", 1, 2), 2, 1, api.Span{}, api.ErrNone}, {box("a", 1, 2), math.MaxInt, 400, api.Span{}, api.ErrNone}, {box("a", make([]int, 400)...), 399, 1, api.Span{}, api.OK}, {box("a", make([]int, 400)...), 400, 1, api.Span{}, api.ErrNone},
		{example(), 0, 1, api.Span{}, api.ErrRange}, {example(), -1, 1, api.Span{}, api.ErrRange}, {example(), math.MinInt, 1, api.Span{}, api.ErrRange}, {example(), 1, 0, api.Span{}, api.ErrRange}, {example(), 1, -1, api.Span{}, api.ErrRange}, {example(), 1, 401, api.Span{}, api.ErrRange}, {example(), 1, math.MaxInt, api.Span{}, api.ErrRange}, {example(), 1, math.MinInt, api.Span{}, api.ErrRange},
		{example(), 15, 401, api.Span{}, api.ErrRange}, {example(), 15, 0, api.Span{}, api.ErrRange}, // ErrRange before ErrNone
	} {
		if s, e := rate.Ahead(c.b, c.last, c.days); s != c.want || e != c.e {
			t.Error(c.b.Name, len(c.b.Errors), c.last, c.days, s, e)
		}
	}
}

// P6.5
func TestAheadHasWhatTheRatesMake(t *testing.T) {
	r := random()
	for range 3000 {
		b := anyBox(r, "a", 2+r.IntN(399))
		all := daily(b)
		last := 1 + r.IntN(len(all))
		rates := all[len(all)-last:]
		width := 0
		for days := 1; days <= 400; days += 1 + r.IntN(40) {
			now := b.Errors[len(b.Errors)-1]
			s, e := rate.Ahead(b, last, days)
			if s.Lo != now+days*slices.Min(rates) || s.Hi != now+days*slices.Max(rates) || e != api.OK {
				t.Fatal(b, last, days, s, e)
			}
			if s.Hi-s.Lo < width {
				t.Fatal("less wide", b, last, days, s)
			}
			width = s.Hi - s.Lo
		}
	}
}

func TestWarm(t *testing.T) {
	for _, c := range []struct {
		t1, r1, t2, r2, t int
		want              api.Ratio
		e                 api.Errno
	}{
		{0, 0, 10, 20, 5, api.Ratio{N: 10, D: 1}, api.OK}, {0, 100, 30000, 700, 15000, api.Ratio{N: 400, D: 1}, api.OK}, {0, 0, 3, 1, 1, api.Ratio{N: 1, D: 3}, api.OK}, {3, 1, 0, 0, 1, api.Ratio{N: 1, D: 3}, api.OK}, {0, 0, 3, 1, -1, api.Ratio{N: -1, D: 3}, api.OK}, {0, 0, 3, 1, 5, api.Ratio{N: 5, D: 3}, api.OK}, {0, 5, 7, 5, 50000, api.Ratio{N: 5, D: 1}, api.OK},
		{-50000, -100000, 50000, 100000, 0, api.Ratio{N: 0, D: 1}, api.OK}, {-50000, 100000, 50000, -100000, 25000, api.Ratio{N: -50000, D: 1}, api.OK}, {50000, -100000, 49999, 100000, -50000, api.Ratio{}, api.ErrLimit}, {0, 0, 1, 100000, 10000, api.Ratio{N: 1000000000, D: 1}, api.OK}, {0, 0, 1, 100000, 10001, api.Ratio{}, api.ErrLimit}, {0, 0, -1, 100000, 10001, api.Ratio{}, api.ErrLimit},
		{0, 99999, 49999, 100000, 1, api.Ratio{}, api.ErrLimit}, {0, 19999, 49999, 20000, 1, api.Ratio{N: 999930002, D: 49999}, api.OK}, {0, 20001, 49999, 20000, 1, api.Ratio{}, api.ErrLimit},
		{5, 1, 5, 1, 5, api.Ratio{}, api.ErrRange}, {5, 1, 5, 2, 0, api.Ratio{}, api.ErrRange},
		{50001, 0, 0, 0, 0, api.Ratio{}, api.ErrRange}, {-50001, 0, 0, 0, 0, api.Ratio{}, api.ErrRange}, {0, 0, 50001, 0, 0, api.Ratio{}, api.ErrRange}, {0, 0, -50001, 0, 0, api.Ratio{}, api.ErrRange}, {0, 0, 1, 0, 50001, api.Ratio{}, api.ErrRange}, {0, 0, 1, 0, -50001, api.Ratio{}, api.ErrRange},
		{0, 100001, 1, 0, 0, api.Ratio{}, api.ErrRange}, {0, -100001, 1, 0, 0, api.Ratio{}, api.ErrRange}, {0, 0, 1, 100001, 0, api.Ratio{}, api.ErrRange}, {0, 0, 1, -100001, 0, api.Ratio{}, api.ErrRange},
		{0, 0, 1, 100001, 50000, api.Ratio{}, api.ErrRange}, // ErrRange before ErrLimit
	} {
		if q, e := rate.Warm(c.t1, c.r1, c.t2, c.r2, c.t); q != c.want || e != c.e {
			t.Error(c, q, e)
		}
	}
	for _, n := range extremes {
		for i := range 5 {
			l := []int{1, 2, 3, 4, 5}
			l[i] = n
			bad := n < -100000 || n > 100000 || i%2 == 0 && (n < -50000 || n > 50000) || l[0] == l[2]
			if q, e := rate.Warm(l[0], l[1], l[2], l[3], l[4]); (e == api.ErrRange) != bad || bad && q != (api.Ratio{}) {
				t.Error(l, q, e)
			}
		}
	}
}

// P6.6, and the line between and beyond.
func TestWarmLine(t *testing.T) {
	r := random()
	met := map[api.Errno]int{}
	for range 20000 {
		most := []int{5, 100, 50000}[r.IntN(3)]
		temperature := func() int { return r.IntN(2*most+1) - most }
		t1, t2, at, r1, r2 := temperature(), temperature(), temperature(), 2*temperature(), 2*temperature()
		if t1 == t2 {
			continue
		}
		slope := big.NewRat(int64(r2-r1), int64(t2-t1))
		exact := slope.Mul(slope, big.NewRat(int64(at-t1), 1))
		exact.Add(exact, big.NewRat(int64(r1), 1))
		want, wantError := api.Ratio{N: int(exact.Num().Int64()), D: int(exact.Denom().Int64())}, api.OK
		if want.N > 1000000000 || want.N < -1000000000 {
			want, wantError = api.Ratio{}, api.ErrLimit
		}
		q, e := rate.Warm(t1, r1, t2, r2, at)
		met[e]++
		if q != want || e != wantError {
			t.Fatal(t1, r1, t2, r2, at, q, e)
		}
		if q, e := rate.Warm(t1, r1, t2, r2, t1); q != (api.Ratio{N: r1, D: 1}) || e != api.OK {
			t.Fatal("at t1", t1, r1, t2, r2, q, e)
		}
		if q, e := rate.Warm(t1, r1, t2, r2, t2); q != (api.Ratio{N: r2, D: 1}) || e != api.OK {
			t.Fatal("at t2", t1, r1, t2, r2, q, e)
		}
	}
	if met[api.OK] < 1000 || met[api.ErrLimit] < 1000 {
		t.Error("hardly tried", met)
	}
}

func TestArc(t *testing.T) {
	for _, c := range []struct{ ms, seconds, rest int }{
		{0, 0, 0}, {4000, 60, 0}, {1, 0, 15}, {66, 0, 990}, {67, 1, 5}, {-1, 0, 15}, {-67, 1, 5}, {-4000, 60, 0}, {api.Day, 1296000, 0}, {1000000000000, 15000000000, 0}, {-1000000000000, 15000000000, 0}, {999999999999, 14999999999, 985}, {-999999999999, 14999999999, 985},
	} {
		if seconds, rest, e := rate.Arc(c.ms); seconds != c.seconds || rest != c.rest || e != api.OK {
			t.Error(c, seconds, rest, e)
		}
	}
	for ms := -3000; ms <= 3000; ms++ {
		thousandths := 15 * int(math.Abs(float64(ms)))
		if seconds, rest, e := rate.Arc(ms); 1000*seconds+rest != thousandths || rest < 0 || rest > 999 || e != api.OK {
			t.Fatal(ms, seconds, rest, e)
		}
	}
	for _, ms := range []int{math.MinInt, math.MinInt + 1, -1000000000001, 1000000000001, math.MaxInt} {
		if seconds, rest, e := rate.Arc(ms); seconds != 0 || rest != 0 || e != api.ErrRange {
			t.Error(ms, seconds, rest, e)
		}
	}
}

func TestDays(t *testing.T) {
	for _, c := range []struct {
		r    api.Span
		most int
		want int
		e    api.Errno
	}{
		{api.Span{Lo: 0, Hi: 10}, 0, 1, api.OK}, {api.Span{Lo: -5, Hi: 5}, 9, 1, api.OK}, {api.Span{Lo: -5, Hi: 5}, 10, 2, api.OK}, {api.Span{Lo: 90, Hi: 100}, 19, 2, api.OK}, {api.Span{Lo: -100, Hi: -90}, 20, 3, api.OK},
		{api.Span{Lo: 0, Hi: 10}, 3999, 400, api.OK}, {api.Span{Lo: 0, Hi: 10}, 3990, 400, api.OK}, {api.Span{Lo: 0, Hi: 10}, 3989, 399, api.OK}, {api.Span{Lo: 0, Hi: 10}, 4000, 0, api.ErrNone}, {api.Span{Lo: 0, Hi: 1}, 399, 400, api.OK}, {api.Span{Lo: 0, Hi: 1}, 400, 0, api.ErrNone},
		{api.Span{}, 0, 0, api.ErrNone}, {api.Span{Lo: 7, Hi: 7}, 0, 0, api.ErrNone}, {api.Span{Lo: -7, Hi: -7}, 1000000000, 0, api.ErrNone}, {api.Span{Lo: -1000000, Hi: 1000000}, 799999999, 400, api.OK}, {api.Span{Lo: -1000000, Hi: 1000000}, 800000000, 0, api.ErrNone}, {api.Span{Lo: -1000000, Hi: 1000000}, 1000000000, 0, api.ErrNone}, {api.Span{Lo: -1000000, Hi: 1000000}, 0, 1, api.OK},
		{api.Span{Lo: -1000001, Hi: 0}, 5, 0, api.ErrRange}, {api.Span{Lo: 0, Hi: 1000001}, 5, 0, api.ErrRange}, {api.Span{Lo: 1000001, Hi: 1000001}, 5, 0, api.ErrRange}, {api.Span{Lo: -1000001, Hi: -1000001}, 5, 0, api.ErrRange}, {api.Span{Lo: -api.MaxTime, Hi: api.MaxTime}, 5, 0, api.ErrRange},
		{api.Span{Lo: 0, Hi: 10}, -1, 0, api.ErrRange}, {api.Span{Lo: 0, Hi: 10}, 1000000001, 0, api.ErrRange}, {api.Span{Lo: 0, Hi: 10}, math.MinInt, 0, api.ErrRange}, {api.Span{Lo: 0, Hi: 10}, math.MaxInt, 0, api.ErrRange}, {api.Span{}, -1, 0, api.ErrRange}, {api.Span{}, 1000000001, 0, api.ErrRange},
	} {
		if n, e := rate.Days(c.r, c.most); n != c.want || e != c.e {
			t.Error(c, n, e)
		}
	}
	for _, bad := range []api.Span{{Lo: 1, Hi: 0}, {Lo: 0, Hi: -1}, {Lo: -api.MaxTime - 1, Hi: 0}, {Lo: 0, Hi: api.MaxTime + 1}, {Lo: math.MinInt, Hi: math.MaxInt}, {Lo: math.MaxInt, Hi: math.MinInt}, {Lo: math.MaxInt, Hi: math.MaxInt}} {
		for _, most := range []int{0, 5, -1, math.MaxInt} { // ErrInvalid before ErrRange
			if n, e := rate.Days(bad, most); n != 0 || e != api.ErrInvalid {
				t.Error(bad, most, n, e)
			}
		}
	}
}

func TestDaysOneByOne(t *testing.T) {
	r := random()
	met := map[api.Errno]int{}
	for range 20000 {
		greatest := []int{3, 100, 1000000}[r.IntN(3)]
		lo := r.IntN(2*greatest+1) - greatest
		s := api.Span{Lo: lo, Hi: lo + r.IntN(greatest-lo+1)}
		most := r.IntN([]int{10, 2000, 1000000001}[r.IntN(3)])
		want, wantError := 0, api.ErrNone
		for n := 0; n <= 400; n++ {
			if n*(s.Hi-s.Lo) > most {
				want, wantError = n, api.OK
				break
			}
		}
		n, e := rate.Days(s, most)
		met[e]++
		if n != want || e != wantError {
			t.Fatal(s, most, n, e)
		}
	}
	if met[api.OK] < 1000 || met[api.ErrNone] < 1000 {
		t.Error("hardly tried", met)
	}
}
