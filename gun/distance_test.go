package gun_test

import (
	"math"
	"math/big"
	"testing"

	"noongun/api"
	"noongun/gun"
)

func checkRoot(t *testing.T, n int) {
	t.Helper()
	want := new(big.Int).Sqrt(big.NewInt(int64(n)))
	if root, e := gun.Root(n); root != int(want.Int64()) || e != api.OK {
		t.Fatal(n, root, e)
	}
}

func TestRoot(t *testing.T) {
	for n := range 100000 {
		checkRoot(t, n)
	}
	r := random()
	for range 50000 {
		k := 1 + r.IntN([]int{1000, 1000000, 1000000000}[r.IntN(3)])
		for by := -1; by <= 1; by++ {
			if n := k*k + by; n <= 1000000000000000000 {
				checkRoot(t, n)
			}
		}
		checkRoot(t, r.IntN(1000000000000000001))
	}
	for n, want := range map[int]int{0: 0, 1: 1, 2: 1, 3: 1, 4: 2, 999999999999999999: 999999999, 1000000000000000000: 1000000000, 999999998000000001: 999999999, 999999998000000000: 999999998, 20000000000000000: 141421356} {
		if root, e := gun.Root(n); root != want || e != api.OK {
			t.Error(n, root, e)
		}
	}
	for _, n := range []int{math.MinInt, -1, 1000000000000000001, math.MaxInt} {
		if root, e := gun.Root(n); root != 0 || e != api.ErrRange {
			t.Error(n, root, e)
		}
	}
}

func TestDistance(t *testing.T) {
	for _, c := range []struct {
		p, q   api.Point
		lo, hi int
	}{
		{api.Point{}, api.Point{}, 0, 0}, {api.Point{X: 1}, api.Point{}, 1000, 1000}, {api.Point{X: 1, Y: 1}, api.Point{}, 1414, 1415}, {api.Point{X: 3}, api.Point{Y: -4}, 5000, 5000},
		{ends[0], ends[3], 141421356, 141421357}, {ends[1], ends[3], 100000000, 100000000}, {ends[2], ends[2], 0, 0}, {api.Point{X: 5}, api.Point{X: -1, Y: 1}, 6082, 6083},
	} {
		if lo, hi, e := gun.Distance(c.p, c.q); lo != c.lo || hi != c.hi || e != api.OK {
			t.Error(c, lo, hi, e)
		}
	}
	r := random()
	for range 20000 {
		most := []int{5, 500, 50000}[r.IntN(3)]
		p, q := anyPlace(r, most), anyPlace(r, most)
		least, greatest := roots(p, q)
		lo, hi, e := gun.Distance(p, q)
		if lo != int(least.Int64()) || hi != int(greatest.Int64()) || e != api.OK {
			t.Fatal(p, q, lo, hi, e)
		}
		if back, again, _ := gun.Distance(q, p); back != lo || again != hi {
			t.Fatal("back", p, q, back, again)
		}
	}
	for _, bad := range badPlaces() {
		for _, pair := range [][2]api.Point{{bad, {}}, {{}, bad}, {bad, bad}} {
			if lo, hi, e := gun.Distance(pair[0], pair[1]); lo != 0 || hi != 0 || e != api.ErrRange {
				t.Error(pair, lo, hi, e)
			}
		}
	}
}

// lagsOver are the lags over all distances that Ring asks for.
func lagsOver(a api.Air) []api.Span {
	var l []api.Span
	for d := 0; d <= 200000; d++ {
		millimetres := 1000 * d
		s := api.Span{Lo: 1000 * millimetres / (a.Speed + a.Wind), Hi: 1000 * millimetres / (a.Speed - a.Wind)}
		if s.Hi*(a.Speed-a.Wind) != 1000*millimetres {
			s.Hi++
		}
		l = append(l, s)
	}
	return l
}

// P5.6: Ring's distances have the lag in theirs, and none less or greater has.
func TestRing(t *testing.T) {
	r := random()
	met := map[api.Errno]int{}
	for _, a := range airs() {
		lags := lagsOver(a)
		asked := []int{0, 1, 2, 3, 4, 5, 6, 7, 8, 9, 10, 1000, 10000, 999999, 1000000}
		for _, s := range []api.Span{lags[1], lags[2], lags[199999], lags[200000]} {
			for by := -1; by <= 1; by++ {
				asked = append(asked, s.Lo+by, s.Hi+by)
			}
		}
		for range 20 {
			asked = append(asked, r.IntN(1000001), r.IntN(1000))
		}
		for _, n := range asked {
			var want []int
			for d, s := range lags {
				if has(s, n) {
					want = append(want, d)
				}
			}
			least, most, e := gun.Ring(a, anyPlace(r, 50000), n)
			met[e]++
			if len(want) == 0 {
				if least != 0 || most != 0 || e != api.ErrNone {
					t.Error(a, n, least, most, e, "not none")
				}
				continue
			}
			if least != want[0] || most != want[len(want)-1] || e != api.OK {
				t.Error(a, n, least, most, e, "not", want[0], want[len(want)-1])
			}
		}
	}
	if met[api.OK] < 100 || met[api.ErrNone] < 50 {
		t.Error("hardly tried", met)
	}
}

func TestKnownRings(t *testing.T) {
	windy := api.Air{Speed: 340000, Wind: 10000}
	for _, c := range []struct {
		a                api.Air
		lag, least, most int
		e                api.Errno
	}{
		{still(), 10000, 3400, 3400, api.OK}, {still(), 0, 0, 0, api.OK}, {still(), 1, 0, 0, api.ErrNone}, {still(), 2, 1, 1, api.OK}, {still(), 3, 1, 1, api.OK}, {still(), 4, 0, 0, api.ErrNone}, {still(), 50, 17, 17, api.OK},
		{windy, 10000, 3300, 3500, api.OK}, {windy, 0, 0, 0, api.OK}, {windy, 1, 0, 0, api.ErrNone}, {windy, 4, 1, 1, api.OK}, {windy, 5, 2, 2, api.OK},
		// as far as 200,000 metres
		{api.Air{Speed: 400000}, 500000, 200000, 200000, api.OK}, {api.Air{Speed: 400000}, 500001, 0, 0, api.ErrNone}, {api.Air{Speed: 400000}, 499999, 0, 0, api.ErrNone}, {api.Air{Speed: 400000}, 499998, 199999, 199999, api.OK},
		{api.Air{Speed: 300000, Wind: 50000}, 571428, 142857, 200000, api.OK}, {api.Air{Speed: 300000, Wind: 50000}, 571427, 142857, 199999, api.OK}, {api.Air{Speed: 300000, Wind: 50000}, 800000, 200000, 200000, api.OK}, {api.Air{Speed: 300000, Wind: 50000}, 800001, 0, 0, api.ErrNone}, {api.Air{Speed: 300000, Wind: 50000}, 1000000, 0, 0, api.ErrNone},
	} {
		if least, most, e := gun.Ring(c.a, ends[3], c.lag); least != c.least || most != c.most || e != c.e {
			t.Error(c, least, most, e)
		}
	}
}

// A place that is as far away as Ring says can hear the lag.
func TestRingAndPlaces(t *testing.T) {
	r := random()
	tried := 0
	for range 3000 {
		a, n := anyAir(r), r.IntN(150000)
		g := api.Point{X: -50000, Y: r.IntN(100001) - 50000}
		least, most, e := gun.Ring(a, g, n)
		for _, d := range []int{least - 1, least, most, most + 1} {
			if e != api.OK || d < 0 || d > 100000 {
				continue
			}
			s, f := gun.Lag(a, g, api.Point{X: g.X + d, Y: g.Y})
			if has(s, n) != (d == least || d == most) || f != api.OK {
				t.Fatal(a, g, n, d, s, least, most)
			}
			tried++
		}
	}
	if tried < 3000 {
		t.Error("hardly tried", tried)
	}
}

func TestRingErrors(t *testing.T) {
	for _, a := range badAirs() {
		for _, p := range append(badPlaces(), api.Point{}) {
			for _, n := range []int{-1, 0, 1, 1000001} {
				if least, most, e := gun.Ring(a, p, n); least != 0 || most != 0 || e != api.ErrInvalid {
					t.Error(a, p, n, least, most, e)
				}
			}
		}
	}
	for _, p := range badPlaces() {
		for _, n := range []int{-1, 0, 1, 10000, 1000001} {
			if least, most, e := gun.Ring(still(), p, n); least != 0 || most != 0 || e != api.ErrRange {
				t.Error(p, n, least, most, e)
			}
		}
	}
	for _, n := range []int{math.MinInt, -1, 1000001, math.MaxInt} {
		if least, most, e := gun.Ring(still(), api.Point{}, n); least != 0 || most != 0 || e != api.ErrRange {
			t.Error(n, least, most, e)
		}
	}
}
