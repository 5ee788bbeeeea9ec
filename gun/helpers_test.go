package gun_test

import (
	"math"
	"math/big"
	"math/rand/v2"
	"slices"

	"noongun/api"
)

// The least and the greatest int, and numbers on both sides of each limit.
var extremes = []int{
	math.MinInt, math.MinInt + 1, -api.MaxTime, -50001, -50000, -49999, -2, -1, 0, 1, 2, 3, 5, 6, 7, 99, 100, 101, 9999, 10000, 10001, 49999, 50000, 50001,
	199999, 200000, 200001, 299999, 300000, 300001, 399999, 400000, 400001, 999999, 1000000, 1000001, api.Day - 1, api.Day, api.MaxTime,
	999999999999999999, 1000000000000000000, 1000000000000000001, math.MaxInt - 1, math.MaxInt,
}

func random() *rand.Rand {
	return rand.New(rand.NewPCG(1864, 1861))
}

// still is the air of the chapter's example.
func still() api.Air {
	return api.Air{Speed: 340000}
}

// airs are valid, and have numbers at each limit.
func airs() []api.Air {
	return []api.Air{
		still(), {Speed: 300000}, {Speed: 400000}, {Speed: 300000, Wind: 50000}, {Speed: 400000, Wind: 50000}, {Speed: 340390, Wind: 1}, {Speed: 331300, Wind: 15000}, {Speed: 333333, Wind: 777},
	}
}

func badAirs() []api.Air {
	var l []api.Air
	for _, n := range []int{math.MinInt, -340000, -1, 0, 299999, 400001, math.MaxInt} {
		l = append(l, api.Air{Speed: n}, api.Air{Speed: n, Wind: 5})
	}
	for _, n := range []int{math.MinInt, -1, 50001, 340000, math.MaxInt} {
		l = append(l, api.Air{Speed: 340000, Wind: n})
	}
	return append(l, api.Air{Speed: 340001, Wind: -340001}, api.Air{Speed: math.MaxInt, Wind: math.MaxInt})
}

var ends = []api.Point{{X: -50000, Y: -50000}, {X: 50000, Y: -50000}, {X: -50000, Y: 50000}, {X: 50000, Y: 50000}}

func badPlaces() []api.Point {
	var l []api.Point
	for _, n := range []int{math.MinInt, math.MinInt + 1, -50001, 50001, math.MaxInt} {
		l = append(l, api.Point{X: n}, api.Point{Y: n}, api.Point{X: n, Y: n}, api.Point{X: 50000, Y: n}, api.Point{X: n, Y: -50000})
	}
	return l
}

func shots() []api.Shot {
	return []api.Shot{
		{Gun: api.Point{X: 0, Y: 0}, Lag: api.Span{Lo: 9900, Hi: 10100}},
		{Gun: api.Point{X: -2000, Y: 4000}, Lag: api.Span{Lo: 0, Hi: 1000000}},
	}
}

func badShots() [][]api.Shot {
	l := [][]api.Shot{nil, {}, make([]api.Shot, 7), make([]api.Shot, 1000)}
	var bad []api.Shot
	for _, p := range badPlaces() {
		bad = append(bad, api.Shot{Gun: p}, api.Shot{Gun: p, Lag: api.Span{Lo: 3, Hi: 9}})
	}
	for _, s := range []api.Span{{Lo: -1, Hi: 5}, {Lo: 6, Hi: 5}, {Lo: 0, Hi: 1000001}, {Lo: 1000001, Hi: 1000001}, {Lo: -1, Hi: -1}, {Lo: math.MinInt, Hi: 0}, {Lo: 0, Hi: math.MaxInt}, {Lo: math.MinInt, Hi: math.MaxInt}, {Lo: math.MaxInt, Hi: math.MinInt}, {Lo: 0, Hi: -1}} {
		bad = append(bad, api.Shot{Lag: s})
	}
	for _, s := range bad {
		l = append(l, []api.Shot{s}, append(shots(), s), append([]api.Shot{s}, shots()...))
	}
	return l
}

func anyAir(r *rand.Rand) api.Air {
	if r.IntN(3) == 0 {
		return airs()[r.IntN(len(airs()))]
	}
	return api.Air{Speed: 300000 + r.IntN(100001), Wind: r.IntN(50001)}
}

// anyPlace is up to a number of metres away from the middle.
func anyPlace(r *rand.Rand, most int) api.Point {
	return api.Point{X: r.IntN(2*most+1) - most, Y: r.IntN(2*most+1) - most}
}

// anyShots are of guns that are heard at a place, but for an error now and then.
func anyShots(r *rand.Rand, a api.Air, at api.Point, most int) []api.Shot {
	var l []api.Shot
	for range 1 + r.IntN(api.MaxGuns) {
		p := anyPlace(r, most)
		s := lag(a, p, at)
		spread := []int{0, 1, 5, 100, 10000}[r.IntN(5)]
		s.Lo = max(0, s.Lo-r.IntN(spread+1))
		s.Hi = min(1000000, s.Hi+r.IntN(spread+1))
		if r.IntN(12) == 0 {
			n := r.IntN(1000001)
			s = api.Span{Lo: n, Hi: min(1000000, n+spread)}
		}
		l = append(l, api.Shot{Gun: p, Lag: s})
	}
	return l
}

// roots are r and R of two places.
func roots(p, q api.Point) (lo, hi *big.Int) {
	x, y := big.NewInt(int64(p.X-q.X)), big.NewInt(int64(p.Y-q.Y))
	n := new(big.Int).Add(x.Mul(x, x), y.Mul(y, y))
	n.Mul(n, big.NewInt(1000000))
	lo = new(big.Int).Sqrt(n)
	hi = new(big.Int).Set(lo)
	if new(big.Int).Mul(lo, lo).Cmp(n) != 0 {
		hi.Add(hi, big.NewInt(1))
	}
	return lo, hi
}

// lag is that of two places by the letter of the chapter.
func lag(a api.Air, p, q api.Point) api.Span {
	lo, hi := roots(p, q)
	thousand, one := big.NewInt(1000), big.NewInt(1)
	fast, slow := big.NewInt(int64(a.Speed+a.Wind)), big.NewInt(int64(a.Speed-a.Wind))
	lo.Div(lo.Mul(lo, thousand), fast)
	rest := new(big.Int)
	hi.DivMod(hi.Mul(hi, thousand), slow, rest)
	if rest.Sign() > 0 {
		hi.Add(hi, one)
	}
	return api.Span{Lo: int(lo.Int64()), Hi: int(hi.Int64())}
}

// meet reports whether two spans have a number in common: if they do, then the end of one of them is in the other one.
func meet(s, t api.Span) bool {
	return has(s, t.Lo) || has(s, t.Hi) || has(t, s.Lo) || has(t, s.Hi)
}

func has(s api.Span, n int) bool {
	return s.Lo <= n && n <= s.Hi
}

func suits(a api.Air, l []api.Shot, at api.Point) bool {
	return !slices.ContainsFunc(l, func(s api.Shot) bool { return !meet(lag(a, s.Gun, at), s.Lag) })
}

// grid is the places of a box's grid, row by row.
func grid(lo, hi api.Point, step int) []api.Point {
	var l []api.Point
	for row := 0; lo.Y+row*step <= hi.Y; row++ {
		for i := 0; lo.X+i*step <= hi.X; i++ {
			l = append(l, api.Point{X: lo.X + i*step, Y: lo.Y + row*step})
		}
	}
	return l
}

func squared(p, q api.Point) int {
	return (p.X-q.X)*(p.X-q.X) + (p.Y-q.Y)*(p.Y-q.Y)
}
