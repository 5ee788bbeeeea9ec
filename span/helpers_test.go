package span_test

import (
	"math"
	"math/big"
	"math/rand/v2"
	"testing"

	"noongun/api"
)

// The least and the greatest int, and numbers on both sides of each limit.
var extremes = []int{
	math.MinInt, math.MinInt + 1, math.MinInt / 2,
	-2*api.MaxTime - 1, -2 * api.MaxTime, -api.MaxTime - 1, -api.MaxTime, -api.MaxRatio - 1, -api.MaxRatio,
	-2, -1, 0, 1, 2, 3,
	api.MaxRatio - 1, api.MaxRatio, api.MaxRatio + 1, api.MaxTime - 1, api.MaxTime, api.MaxTime + 1, 2 * api.MaxTime, 2*api.MaxTime + 1,
	math.MaxInt / 2, math.MaxInt - 1, math.MaxInt,
}

// Fractions that have no valid form.
var badRatios = []api.Ratio{
	{}, {N: 1}, {N: 0, D: 2}, {N: 2, D: 4}, {N: -3, D: 9}, {N: 1, D: -1}, {N: -1, D: -2}, {N: 0, D: -1},
	{N: api.MaxRatio + 1, D: 1}, {N: -api.MaxRatio - 1, D: 1}, {N: 1, D: api.MaxRatio + 1}, {N: api.MaxRatio, D: api.MaxRatio},
	{N: math.MinInt, D: 1}, {N: math.MaxInt, D: 1}, {N: 1, D: math.MinInt}, {N: 1, D: math.MaxInt}, {N: math.MinInt, D: math.MinInt},
}

// Spans that are not valid.
var badSpans = []api.Span{
	{Lo: 1, Hi: 0}, {Lo: -1, Hi: -2}, {Lo: api.MaxTime, Hi: -api.MaxTime},
	{Lo: 0, Hi: api.MaxTime + 1}, {Lo: -api.MaxTime - 1, Hi: 0}, {Lo: api.MaxTime + 1, Hi: api.MaxTime + 1},
	{Lo: math.MinInt, Hi: math.MaxInt}, {Lo: math.MinInt, Hi: math.MinInt}, {Lo: math.MaxInt, Hi: math.MaxInt}, {Lo: math.MaxInt, Hi: math.MinInt},
}

func random() *rand.Rand {
	return rand.New(rand.NewPCG(1700, 2200))
}

// ratios are valid fractions: small ones, those at the limits, and some from all over.
func ratios(t *testing.T, n int) []api.Ratio {
	t.Helper()
	l := []api.Ratio{
		{N: 0, D: 1}, {N: 1, D: 1}, {N: -1, D: 1}, {N: 1, D: 2}, {N: -1, D: 3}, {N: 5, D: 6}, {N: -5, D: 6}, {N: 7, D: 2},
		{N: api.MaxRatio, D: 1}, {N: -api.MaxRatio, D: 1}, {N: 1, D: api.MaxRatio}, {N: -1, D: api.MaxRatio},
		{N: api.MaxRatio, D: api.MaxRatio - 1}, {N: api.MaxRatio - 1, D: api.MaxRatio}, {N: 1 - api.MaxRatio, D: api.MaxRatio},
	}
	r := random()
	for len(l) < n {
		most := []int64{10, 1000, 40000, api.MaxRatio}[r.IntN(4)]
		q := big.NewRat(r.Int64N(2*most+1)-most, r.Int64N(most)+1)
		l = append(l, api.Ratio{N: int(q.Num().Int64()), D: int(q.Denom().Int64())})
	}
	return l
}

func rat(a api.Ratio) *big.Rat {
	return big.NewRat(int64(a.N), int64(a.D))
}

// limitedRatio is what a function must return whose result is q.
func limitedRatio(q *big.Rat) (api.Ratio, api.Errno) {
	most := big.NewInt(api.MaxRatio)
	if q.Num().CmpAbs(most) > 0 || q.Denom().Cmp(most) > 0 {
		return api.Ratio{}, api.ErrLimit
	}
	return api.Ratio{N: int(q.Num().Int64()), D: int(q.Denom().Int64())}, api.OK
}

// floor is q rounded down.
func floor(q *big.Rat) *big.Int {
	// big's Div is Euclidean: with a divisor above 0 that is rounding down.
	return new(big.Int).Div(q.Num(), q.Denom())
}

func ceiling(q *big.Rat) *big.Int {
	down := floor(new(big.Rat).Neg(q))
	return down.Neg(down)
}
