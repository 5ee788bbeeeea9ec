package span_test

import (
	"math"
	"math/big"
	"testing"

	"noongun/api"
	"noongun/span"
)

// spans are valid spans: small ones, those at the limits, and some from all over.
func spans(n int) []api.Span {
	const far = api.MaxTime
	l := []api.Span{
		{Lo: 0, Hi: 0}, {Lo: 1, Hi: 2}, {Lo: -2, Hi: -1}, {Lo: -7, Hi: 9}, {Lo: 5, Hi: 5},
		{Lo: -far, Hi: far}, {Lo: 0, Hi: far}, {Lo: -far, Hi: 0}, {Lo: far, Hi: far}, {Lo: -far, Hi: -far},
		{Lo: far - 1, Hi: far}, {Lo: -far, Hi: 1 - far}, {Lo: far - 1, Hi: far - 1},
	}
	r := random()
	for len(l) < n {
		most := []int{9, 1000, 1000000, far}[r.IntN(4)]
		a, b := r.IntN(2*most+1)-most, r.IntN(2*most+1)-most
		l = append(l, api.Span{Lo: min(a, b), Hi: max(a, b)})
	}
	return l
}

// limitedSpan is what a function must return whose result has these ends.
func limitedSpan(lo, hi *big.Int) (api.Span, api.Errno) {
	most := big.NewInt(api.MaxTime)
	if lo.CmpAbs(most) > 0 || hi.CmpAbs(most) > 0 {
		return api.Span{}, api.ErrLimit
	}
	return api.Span{Lo: int(lo.Int64()), Hi: int(hi.Int64())}, api.OK
}

func TestValidSpan(t *testing.T) {
	for _, s := range spans(200) {
		if !span.ValidSpan(s) {
			t.Error("valid", s)
		}
	}
	for _, s := range badSpans {
		if span.ValidSpan(s) {
			t.Error("not valid", s)
		}
	}
}

func TestSum(t *testing.T) {
	l := spans(150)
	for _, a := range l {
		for _, b := range l {
			lo, hi := big.NewInt(int64(a.Lo)), big.NewInt(int64(a.Hi))
			want, wantError := limitedSpan(lo.Add(lo, big.NewInt(int64(b.Lo))), hi.Add(hi, big.NewInt(int64(b.Hi))))
			if s, e := span.Sum(a, b); s != want || e != wantError {
				t.Fatal(a, b, s, e)
			}
		}
	}
	for _, c := range []struct {
		a, b, s api.Span
		e       api.Errno
	}{
		{api.Span{Lo: 1, Hi: 2}, api.Span{Lo: -5, Hi: 9}, api.Span{Lo: -4, Hi: 11}, api.OK},
		{api.Span{Lo: 0, Hi: api.MaxTime - 1}, api.Span{Lo: 0, Hi: 1}, api.Span{Lo: 0, Hi: api.MaxTime}, api.OK},
		{api.Span{Lo: 0, Hi: api.MaxTime}, api.Span{Lo: 0, Hi: 1}, api.Span{}, api.ErrLimit},
		{api.Span{Lo: 1 - api.MaxTime, Hi: 0}, api.Span{Lo: -1, Hi: 0}, api.Span{Lo: -api.MaxTime, Hi: 0}, api.OK},
		{api.Span{Lo: -api.MaxTime, Hi: 0}, api.Span{Lo: -1, Hi: 0}, api.Span{}, api.ErrLimit},
	} {
		if s, e := span.Sum(c.a, c.b); s != c.s || e != c.e {
			t.Error(c, s, e)
		}
	}
}

func TestOpposite(t *testing.T) {
	for _, a := range spans(200) {
		s, e := span.Opposite(a)
		if s != (api.Span{Lo: -a.Hi, Hi: -a.Lo}) || e != api.OK {
			t.Error(a, s, e)
		}
		if back, _ := span.Opposite(s); back != a {
			t.Error("twice", a, back)
		}
	}
}

func TestScaledIsExact(t *testing.T) {
	limits := 0
	for _, a := range spans(150) {
		for _, r := range ratios(t, 200) {
			p, q := new(big.Rat).Mul(rat(r), big.NewRat(int64(a.Lo), 1)), new(big.Rat).Mul(rat(r), big.NewRat(int64(a.Hi), 1))
			if p.Cmp(q) > 0 {
				p, q = q, p
			}
			want, wantError := limitedSpan(floor(p), ceiling(q))
			if s, e := span.Scaled(a, r); s != want || e != wantError {
				t.Fatalf("Scaled(%v, %v) = %v, %d, not %v, %d", a, r, s, e, want, wantError)
			}
			if wantError == api.ErrLimit {
				limits++
			}
		}
	}
	if limits == 0 || limits == 150*200 {
		t.Error("not tried on both sides of the limit")
	}
}

func TestScaled(t *testing.T) {
	const far = api.MaxTime
	for _, c := range []struct {
		a api.Span
		r api.Ratio
		s api.Span
		e api.Errno
	}{
		{api.Span{Lo: 1, Hi: 2}, api.Ratio{N: -1, D: 3}, api.Span{Lo: -1, Hi: 0}, api.OK},
		{api.Span{Lo: 1, Hi: 2}, api.Ratio{N: 1, D: 3}, api.Span{Lo: 0, Hi: 1}, api.OK},
		{api.Span{Lo: -7, Hi: 9}, api.Ratio{N: 3, D: 2}, api.Span{Lo: -11, Hi: 14}, api.OK},
		{api.Span{Lo: -7, Hi: 9}, api.Ratio{N: 0, D: 1}, api.Span{}, api.OK},
		{api.Span{Lo: -far, Hi: far}, api.Ratio{N: 1, D: 1}, api.Span{Lo: -far, Hi: far}, api.OK},
		{api.Span{Lo: -far, Hi: far - 1}, api.Ratio{N: -1, D: 1}, api.Span{Lo: 1 - far, Hi: far}, api.OK},
		{api.Span{Lo: 0, Hi: far}, api.Ratio{N: 999999999, D: 1000000000}, api.Span{Lo: 0, Hi: 999999999000}, api.OK},
		{api.Span{Lo: 0, Hi: 1}, api.Ratio{N: 1, D: 1000000000}, api.Span{Lo: 0, Hi: 1}, api.OK},
		{api.Span{Lo: -1, Hi: 0}, api.Ratio{N: 1, D: 1000000000}, api.Span{Lo: -1, Hi: 0}, api.OK},
		// 10^21, which 64 bits do not have
		{api.Span{Lo: 0, Hi: far}, api.Ratio{N: 1000000000, D: 1}, api.Span{}, api.ErrLimit},
		{api.Span{Lo: -far, Hi: 0}, api.Ratio{N: 1000000000, D: 1}, api.Span{}, api.ErrLimit},
		{api.Span{Lo: -far, Hi: 0}, api.Ratio{N: -1000000000, D: 1}, api.Span{}, api.ErrLimit},
		{api.Span{Lo: far, Hi: far}, api.Ratio{N: -1000000000, D: 1}, api.Span{}, api.ErrLimit},
		{api.Span{Lo: far, Hi: far}, api.Ratio{N: 1000000000, D: 999999999}, api.Span{}, api.ErrLimit},
		{api.Span{Lo: 999999999000, Hi: 999999999000}, api.Ratio{N: 1000000000, D: 999999999}, api.Span{Lo: far, Hi: far}, api.OK},
		{api.Span{Lo: -999999999000, Hi: 999999999000}, api.Ratio{N: -1000000000, D: 999999999}, api.Span{Lo: -far, Hi: far}, api.OK},
		// just one end is beyond
		{api.Span{Lo: 0, Hi: far/2 + 1}, api.Ratio{N: 2, D: 1}, api.Span{}, api.ErrLimit},
		{api.Span{Lo: -far/2 - 1, Hi: 0}, api.Ratio{N: 2, D: 1}, api.Span{}, api.ErrLimit},
		{api.Span{Lo: -far / 2, Hi: far / 2}, api.Ratio{N: 2, D: 1}, api.Span{Lo: -far, Hi: far}, api.OK},
		// rounding alone takes an end beyond: 666,666,666,667 * 3 / 2 = 10^12 + 1 / 2
		{api.Span{Lo: 0, Hi: 666666666667}, api.Ratio{N: 3, D: 2}, api.Span{}, api.ErrLimit},
		{api.Span{Lo: -666666666667, Hi: 0}, api.Ratio{N: 3, D: 2}, api.Span{}, api.ErrLimit},
		{api.Span{Lo: 0, Hi: 666666666666}, api.Ratio{N: 3, D: 2}, api.Span{Lo: 0, Hi: 999999999999}, api.OK},
		// and to just the limit: 749,999,999,999 * 4 / 3 = 10^12 - 4 / 3, 750,000,000,000 * 4 / 3 = 10^12
		{api.Span{Lo: 749999999999, Hi: 750000000000}, api.Ratio{N: 4, D: 3}, api.Span{Lo: 999999999998, Hi: far}, api.OK},
		{api.Span{Lo: 0, Hi: 399999999999}, api.Ratio{N: 5, D: 2}, api.Span{Lo: 0, Hi: 999999999998}, api.OK},
	} {
		if s, e := span.Scaled(c.a, c.r); s != c.s || e != c.e {
			t.Errorf("Scaled(%v, %v) = %v, %d, not %v, %d", c.a, c.r, s, e, c.s, c.e)
		}
	}
}

func has(s api.Span, n *big.Rat) bool {
	return n.Cmp(big.NewRat(int64(s.Lo), 1)) >= 0 && n.Cmp(big.NewRat(int64(s.Hi), 1)) <= 0
}

// A number of a span need not be whole: quarters are tried here.
func TestScaledHasAllProductsAndNothingLessWideDoes(t *testing.T) {
	for lo := -6; lo <= 6; lo++ {
		for hi := lo; hi <= 6; hi++ {
			for _, r := range []api.Ratio{{N: 0, D: 1}, {N: 1, D: 1}, {N: -1, D: 1}, {N: 2, D: 3}, {N: -2, D: 3}, {N: 7, D: 4}, {N: -9, D: 5}} {
				s, _ := span.Scaled(api.Span{Lo: lo, Hi: hi}, r)
				less, more := api.Span{Lo: s.Lo + 1, Hi: s.Hi}, api.Span{Lo: s.Lo, Hi: s.Hi - 1}
				inLess, inMore := true, true
				for quarters := 4 * lo; quarters <= 4*hi; quarters++ {
					p := new(big.Rat).Mul(big.NewRat(int64(quarters), 4), rat(r))
					if !has(s, p) {
						t.Fatal(lo, hi, r, s, p)
					}
					inLess, inMore = inLess && has(less, p), inMore && has(more, p)
				}
				if inLess || inMore {
					t.Fatal("too wide", lo, hi, r, s)
				}
			}
		}
	}
}

// small calls f with all pairs of spans with ends from -3 to 3.
func small(f func(a, b api.Span)) {
	var l []api.Span
	for lo := -3; lo <= 3; lo++ {
		for hi := lo; hi <= 3; hi++ {
			l = append(l, api.Span{Lo: lo, Hi: hi})
		}
	}
	for _, a := range l {
		for _, b := range l {
			f(a, b)
		}
	}
}

func in(s api.Span, n int) bool { return s.Lo <= n && n <= s.Hi }

func TestSmallSpansByTheirNumbers(t *testing.T) {
	small(func(a, b api.Span) {
		sums := map[int]bool{}
		for x := a.Lo; x <= a.Hi; x++ {
			for y := b.Lo; y <= b.Hi; y++ {
				sums[x+y] = true
			}
		}
		sum, _ := span.Sum(a, b)
		meet, none := span.Meet(a, b)
		hull, _ := span.Hull(a, b)
		common := 0
		for n := -10; n <= 10; n++ {
			if in(sum, n) != sums[n] {
				t.Error("Sum", a, b, sum)
			}
			both := in(a, n) && in(b, n)
			if both {
				common++
			}
			if none == api.OK && in(meet, n) != both {
				t.Error("Meet", a, b, meet)
			}
			if (in(a, n) || in(b, n)) && !in(hull, n) {
				t.Error("Hull", a, b, hull)
			}
		}
		if (none == api.ErrNone) != (common == 0) || none != api.OK && none != api.ErrNone {
			t.Error("Meet", a, b, none)
		}
		if !(in(a, hull.Lo) || in(b, hull.Lo)) || !(in(a, hull.Hi) || in(b, hull.Hi)) {
			t.Error("Hull is too wide", a, b, hull)
		}
	})
}

func TestMeetAndHullAtTheLimits(t *testing.T) {
	low, high := api.Span{Lo: -api.MaxTime, Hi: 0}, api.Span{Lo: 0, Hi: api.MaxTime}
	if s, e := span.Meet(low, high); s != (api.Span{}) || e != api.OK {
		t.Error("Meet in one number", s, e)
	}
	if s, e := span.Meet(low, api.Span{Lo: 1, Hi: 1}); s != (api.Span{}) || e != api.ErrNone {
		t.Error("Meet of neighbours", s, e)
	}
	if s, e := span.Hull(low, high); s != (api.Span{Lo: -api.MaxTime, Hi: api.MaxTime}) || e != api.OK {
		t.Error("Hull", s, e)
	}
	if s, e := span.Hull(api.Span{Lo: 1, Hi: 2}, api.Span{Lo: 5, Hi: 9}); s != (api.Span{Lo: 1, Hi: 9}) || e != api.OK {
		t.Error("Hull over a gap", s, e)
	}
}

func TestWider(t *testing.T) {
	for _, c := range []struct {
		a  api.Span
		by int
		s  api.Span
		e  api.Errno
	}{
		{api.Span{Lo: 1, Hi: 2}, 3, api.Span{Lo: -2, Hi: 5}, api.OK},
		{api.Span{Lo: 1, Hi: 2}, 0, api.Span{Lo: 1, Hi: 2}, api.OK},
		{api.Span{}, api.MaxTime, api.Span{Lo: -api.MaxTime, Hi: api.MaxTime}, api.OK},
		{api.Span{}, api.MaxTime + 1, api.Span{}, api.ErrLimit},
		{api.Span{Lo: 0, Hi: api.MaxTime}, 1, api.Span{}, api.ErrLimit},
		{api.Span{Lo: -api.MaxTime, Hi: 0}, 1, api.Span{}, api.ErrLimit},
		{api.Span{Lo: -api.MaxTime, Hi: api.MaxTime}, 0, api.Span{Lo: -api.MaxTime, Hi: api.MaxTime}, api.OK},
		{api.Span{Lo: api.MaxTime, Hi: api.MaxTime}, 2 * api.MaxTime, api.Span{}, api.ErrLimit},
		{api.Span{}, math.MaxInt, api.Span{}, api.ErrLimit},
		{api.Span{Lo: -api.MaxTime, Hi: -api.MaxTime}, math.MaxInt, api.Span{}, api.ErrLimit},
		{api.Span{Lo: api.MaxTime, Hi: api.MaxTime}, math.MaxInt, api.Span{}, api.ErrLimit},
		{api.Span{Lo: 1, Hi: 2}, -1, api.Span{}, api.ErrRange},
		{api.Span{Lo: 1, Hi: 2}, math.MinInt, api.Span{}, api.ErrRange},
		{api.Span{Lo: 2, Hi: 1}, -1, api.Span{}, api.ErrInvalid},
		{api.Span{Lo: 2, Hi: 1}, math.MaxInt, api.Span{}, api.ErrInvalid},
	} {
		if s, e := span.Wider(c.a, c.by); s != c.s || e != c.e {
			t.Error(c, s, e)
		}
	}
}

func TestWiderSpansHaveMore(t *testing.T) {
	for _, a := range spans(100) {
		for by := range 5 {
			s, e := span.Wider(a, by)
			if e == api.ErrLimit {
				continue
			}
			if s != (api.Span{Lo: a.Lo - by, Hi: a.Hi + by}) || e != api.OK {
				t.Error(a, by, s, e)
			}
		}
	}
}

func TestInvalidSpans(t *testing.T) {
	one := api.Ratio{N: 1, D: 1}
	for _, bad := range badSpans {
		for _, good := range []api.Span{{}, {Lo: -api.MaxTime, Hi: api.MaxTime}, {Lo: 5, Hi: 9}} {
			for name, f := range map[string]func(a, b api.Span) (api.Span, api.Errno){"Sum": span.Sum, "Meet": span.Meet, "Hull": span.Hull} {
				for _, pair := range [][2]api.Span{{good, bad}, {bad, good}, {bad, bad}} {
					if s, e := f(pair[0], pair[1]); s != (api.Span{}) || e != api.ErrInvalid {
						t.Error(name, pair, s, e)
					}
				}
			}
		}
		if s, e := span.Opposite(bad); s != (api.Span{}) || e != api.ErrInvalid {
			t.Error("Opposite", bad, s, e)
		}
		if s, e := span.Scaled(bad, one); s != (api.Span{}) || e != api.ErrInvalid {
			t.Error("Scaled", bad, s, e)
		}
		if s, e := span.Wider(bad, 1); s != (api.Span{}) || e != api.ErrInvalid {
			t.Error("Wider", bad, s, e)
		}
	}
	for _, bad := range badRatios {
		if s, e := span.Scaled(api.Span{Lo: 0, Hi: api.MaxTime}, bad); s != (api.Span{}) || e != api.ErrInvalid {
			t.Error("Scaled by", bad, s, e)
		}
	}
}
