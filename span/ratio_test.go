package span_test

import (
	"math"
	"math/big"
	"testing"

	"noongun/api"
	"noongun/span"
)

func TestValidRatio(t *testing.T) {
	for _, a := range ratios(t, 300) {
		if !span.ValidRatio(a) {
			t.Error("valid", a)
		}
	}
	for _, a := range badRatios {
		if span.ValidRatio(a) {
			t.Error("not valid", a)
		}
	}
}

func TestValidRatioOfSmallParts(t *testing.T) {
	for n := -30; n <= 30; n++ {
		for d := -30; d <= 30; d++ {
			want := false
			if d > 0 {
				q := big.NewRat(int64(n), int64(d))
				want = q.Num().Int64() == int64(n) && q.Denom().Int64() == int64(d)
			}
			if got := span.ValidRatio(api.Ratio{N: n, D: d}); got != want {
				t.Error(n, d, got)
			}
		}
	}
}

func TestMake(t *testing.T) {
	const e18 = 1000000000000000000
	for _, c := range []struct {
		n, d int
		a    api.Ratio
		e    api.Errno
	}{
		{6, 4, api.Ratio{N: 3, D: 2}, api.OK},
		{-6, 4, api.Ratio{N: -3, D: 2}, api.OK},
		{6, -4, api.Ratio{N: -3, D: 2}, api.OK},
		{-6, -4, api.Ratio{N: 3, D: 2}, api.OK},
		{0, 7, api.Ratio{N: 0, D: 1}, api.OK},
		{0, -7, api.Ratio{N: 0, D: 1}, api.OK},
		{0, e18, api.Ratio{N: 0, D: 1}, api.OK},
		{e18, e18, api.Ratio{N: 1, D: 1}, api.OK},
		{-e18, e18, api.Ratio{N: -1, D: 1}, api.OK},
		{e18, -e18, api.Ratio{N: -1, D: 1}, api.OK},
		{-e18, -e18, api.Ratio{N: 1, D: 1}, api.OK},
		{e18, api.MaxRatio, api.Ratio{N: api.MaxRatio, D: 1}, api.OK},
		{api.MaxRatio, e18, api.Ratio{N: 1, D: api.MaxRatio}, api.OK},
		{2 * api.MaxRatio, 2, api.Ratio{N: api.MaxRatio, D: 1}, api.OK},
		{api.MaxRatio + 1, 1, api.Ratio{}, api.ErrLimit},
		{-api.MaxRatio - 1, 1, api.Ratio{}, api.ErrLimit},
		{1, api.MaxRatio + 1, api.Ratio{}, api.ErrLimit},
		{1, -api.MaxRatio - 1, api.Ratio{}, api.ErrLimit},
		{2*api.MaxRatio + 1, 2, api.Ratio{}, api.ErrLimit},
		{e18, 1, api.Ratio{}, api.ErrLimit},
		{1, e18, api.Ratio{}, api.ErrLimit},
		{e18, e18 - 1, api.Ratio{}, api.ErrLimit},
		{1, 0, api.Ratio{}, api.ErrRange},
		{0, 0, api.Ratio{}, api.ErrRange},
		{e18 + 1, 1, api.Ratio{}, api.ErrRange},
		{-e18 - 1, 1, api.Ratio{}, api.ErrRange},
		{1, e18 + 1, api.Ratio{}, api.ErrRange},
		{1, -e18 - 1, api.Ratio{}, api.ErrRange},
		{math.MinInt, math.MinInt, api.Ratio{}, api.ErrRange},
		{math.MinInt, 1, api.Ratio{}, api.ErrRange},
		{1, math.MinInt, api.Ratio{}, api.ErrRange},
		{math.MaxInt, math.MaxInt, api.Ratio{}, api.ErrRange},
		{math.MaxInt, -1, api.Ratio{}, api.ErrRange},
		{0, math.MinInt, api.Ratio{}, api.ErrRange},
	} {
		if a, e := span.Make(c.n, c.d); a != c.a || e != c.e {
			t.Errorf("Make(%d, %d) = %v, %d, not %v, %d", c.n, c.d, a, e, c.a, c.e)
		}
	}
}

func TestMakeIsExact(t *testing.T) {
	r := random()
	for range 20000 {
		most := []int64{20, 100000, 100 * api.MaxRatio, 1000000000000000000}[r.IntN(4)]
		factor := r.Int64N(40) + 1
		n, d := (r.Int64N(2*most+1)-most)/factor*factor, (r.Int64N(2*most+1)-most)/factor*factor
		if d == 0 {
			continue
		}
		want, wantError := limitedRatio(big.NewRat(n, d))
		if a, e := span.Make(int(n), int(d)); a != want || e != wantError {
			t.Fatalf("Make(%d, %d) = %v, %d, not %v, %d", n, d, a, e, want, wantError)
		}
	}
}

type operation struct {
	name  string
	call  func(a, b api.Ratio) (api.Ratio, api.Errno)
	exact func(a, b *big.Rat) *big.Rat
}

func operations() []operation {
	return []operation{
		{"Add", span.Add, func(a, b *big.Rat) *big.Rat { return new(big.Rat).Add(a, b) }},
		{"Sub", span.Sub, func(a, b *big.Rat) *big.Rat { return new(big.Rat).Sub(a, b) }},
		{"Mul", span.Mul, func(a, b *big.Rat) *big.Rat { return new(big.Rat).Mul(a, b) }},
	}
}

func TestOperationsAreExact(t *testing.T) {
	l := ratios(t, 300)
	for _, o := range operations() {
		limits := 0
		for _, a := range l {
			for _, b := range l {
				want, wantError := limitedRatio(o.exact(rat(a), rat(b)))
				if got, e := o.call(a, b); got != want || e != wantError {
					t.Fatalf("%s(%v, %v) = %v, %d, not %v, %d", o.name, a, b, got, e, want, wantError)
				}
				if wantError == api.ErrLimit {
					limits++
				}
			}
		}
		if limits == 0 || limits == len(l)*len(l) {
			t.Error(o.name, "has not been tried on both sides of the limit")
		}
	}
}

func TestOperationsAtTheLimit(t *testing.T) {
	whole, part := api.Ratio{N: api.MaxRatio, D: 1}, api.Ratio{N: 1, D: api.MaxRatio}
	one, less := api.Ratio{N: 1, D: 1}, api.Ratio{N: api.MaxRatio - 1, D: 1}
	if s, e := span.Add(less, one); s != whole || e != api.OK {
		t.Error("Add to the limit", s, e)
	}
	if s, e := span.Add(whole, one); s != (api.Ratio{}) || e != api.ErrLimit {
		t.Error("Add beyond the limit", s, e)
	}
	if s, e := span.Sub(api.Ratio{N: -api.MaxRatio, D: 1}, one); s != (api.Ratio{}) || e != api.ErrLimit {
		t.Error("Sub beyond the limit", s, e)
	}
	if s, e := span.Sub(whole, whole); s != (api.Ratio{N: 0, D: 1}) || e != api.OK {
		t.Error("Sub of itself", s, e)
	}
	if s, e := span.Mul(whole, part); s != one || e != api.OK {
		t.Error("Mul of opposite limits", s, e)
	}
	if s, e := span.Mul(part, api.Ratio{N: 1, D: 2}); s != (api.Ratio{}) || e != api.ErrLimit {
		t.Error("Mul beyond the limit", s, e)
	}
	if s, e := span.Mul(whole, whole); s != (api.Ratio{}) || e != api.ErrLimit {
		t.Error("Mul far beyond the limit", s, e)
	}
}

func TestOperationsOfInvalidRatios(t *testing.T) {
	// A valid partner with which the result would be beyond the limit: ErrInvalid comes first.
	for _, good := range []api.Ratio{{N: 0, D: 1}, {N: 1, D: 2}, {N: api.MaxRatio, D: 1}} {
		for _, bad := range badRatios {
			for _, o := range operations() {
				for _, pair := range [][2]api.Ratio{{good, bad}, {bad, good}, {bad, bad}} {
					if s, e := o.call(pair[0], pair[1]); s != (api.Ratio{}) || e != api.ErrInvalid {
						t.Error(o.name, pair, s, e)
					}
				}
			}
		}
	}
}

func TestOperationsCommute(t *testing.T) {
	l := ratios(t, 150)
	for _, a := range l {
		for _, b := range l {
			s, e := span.Add(a, b)
			if r, f := span.Add(b, a); r != s || f != e {
				t.Fatal("Add", a, b)
			}
			s, e = span.Mul(a, b)
			if r, f := span.Mul(b, a); r != s || f != e {
				t.Fatal("Mul", a, b)
			}
		}
	}
}

type binary func(a, b api.Ratio) (api.Ratio, api.Errno)

func all(errors ...api.Errno) bool {
	for _, e := range errors {
		if e != api.OK {
			return false
		}
	}
	return true
}

// sameBothWays tells whether f is associative for three fractions, and whether nothing was beyond the limit.
func sameBothWays(f binary, a, b, c api.Ratio) (same, within bool) {
	ab, e1 := f(a, b)
	left, e2 := f(ab, c)
	bc, e3 := f(b, c)
	right, e4 := f(a, bc)
	return left == right, all(e1, e2, e3, e4)
}

func distributes(a, b, c api.Ratio) (same, within bool) {
	sum, e1 := span.Add(b, c)
	left, e2 := span.Mul(a, sum)
	ab, e3 := span.Mul(a, b)
	ac, e4 := span.Mul(a, c)
	right, e5 := span.Add(ab, ac)
	return left == right, all(e1, e2, e3, e4, e5)
}

func TestOperationsAssociateAndDistribute(t *testing.T) {
	l := ratios(t, 60)
	laws := map[string]func(a, b, c api.Ratio) (bool, bool){
		"sums associate":     func(a, b, c api.Ratio) (bool, bool) { return sameBothWays(span.Add, a, b, c) },
		"products associate": func(a, b, c api.Ratio) (bool, bool) { return sameBothWays(span.Mul, a, b, c) },
		"distributive":       distributes,
	}
	for name, law := range laws {
		tried := 0
		for _, a := range l {
			for _, b := range l {
				for _, c := range l {
					same, within := law(a, b, c)
					if within && !same {
						t.Fatal(name, a, b, c)
					}
					if within {
						tried++
					}
				}
			}
		}
		if tried < 1000 {
			t.Error(name, "was hardly tried", tried)
		}
	}
}

func TestCompare(t *testing.T) {
	l := ratios(t, 300)
	for _, a := range l {
		for _, b := range l {
			if got, want := span.Compare(a, b), rat(a).Cmp(rat(b)); got != want {
				t.Fatal(a, b, got, want)
			}
		}
	}
	// These differ by less than a float could tell.
	a, b := api.Ratio{N: api.MaxRatio - 1, D: api.MaxRatio}, api.Ratio{N: api.MaxRatio - 2, D: api.MaxRatio - 1}
	if span.Compare(a, b) != 1 || span.Compare(b, a) != -1 || span.Compare(a, a) != 0 {
		t.Error("close fractions")
	}
}

func TestCompareOfInvalidRatios(t *testing.T) {
	for _, good := range []api.Ratio{{N: 0, D: 1}, {N: -1, D: 2}, {N: api.MaxRatio, D: 1}} {
		for _, bad := range badRatios {
			if span.Compare(good, bad) != 0 || span.Compare(bad, good) != 0 || span.Compare(bad, bad) != 0 {
				t.Error(good, bad)
			}
		}
	}
}

func TestFloor(t *testing.T) {
	for _, c := range []struct {
		a    api.Ratio
		want int
	}{
		{api.Ratio{N: 0, D: 1}, 0}, {api.Ratio{N: 7, D: 2}, 3}, {api.Ratio{N: -7, D: 2}, -4}, {api.Ratio{N: -4, D: 1}, -4},
		{api.Ratio{N: 1, D: api.MaxRatio}, 0}, {api.Ratio{N: -1, D: api.MaxRatio}, -1}, {api.Ratio{N: -api.MaxRatio, D: 1}, -api.MaxRatio},
	} {
		if n, e := span.Floor(c.a); n != c.want || e != api.OK {
			t.Error(c.a, n, e)
		}
	}
	for _, a := range ratios(t, 2000) {
		if n, e := span.Floor(a); int64(n) != floor(rat(a)).Int64() || e != api.OK {
			t.Fatal(a, n, e)
		}
	}
	for _, a := range badRatios {
		if n, e := span.Floor(a); n != 0 || e != api.ErrInvalid {
			t.Error(a, n, e)
		}
	}
}
