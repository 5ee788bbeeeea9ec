package sight_test

import (
	"math"
	"math/big"
	"math/rand/v2"
	"slices"
	"testing"

	"noongun/api"
	"noongun/sight"
)

// The least and the greatest int, and numbers on both sides of each limit.
var extremes = []int{
	math.MinInt, math.MinInt + 1, -api.MaxTime - 1, -api.MaxTime, -api.Day - 1, -api.Day, -2, -1, 0, 1, 2, 7, 8, 29, 30, 31, 59, 60,
	api.MaxRate, api.MaxRate + 1, api.Day, api.Day + 1, api.MaxTime, api.MaxTime + 1, math.MaxInt - 1, math.MaxInt,
}

func random() *rand.Rand {
	return rand.New(rand.NewPCG(1833, 1924))
}

func clone(x api.Net) api.Net {
	return api.Net{Rates: slices.Clone(x.Rates), Sights: slices.Clone(x.Sights)}
}

func same(x, y api.Net) bool {
	return slices.Equal(x.Rates, y.Rates) && slices.Equal(x.Sights, y.Sights)
}

// example is the net of the chapter's example, with its second sight or without.
func example(second bool) api.Net {
	x := api.Net{Rates: []int{0, 10000}, Sights: []api.Sight{{At: 0, A: 1, B: 0, Lo: 100, Hi: 100}}}
	if second {
		x.Sights = append(x.Sights, api.Sight{At: 1000000, A: 1, B: 0, Lo: 150, Hi: 160})
	}
	return x
}

// full is a valid net with as many sights as may be.
func full() api.Net {
	x := api.Net{Rates: []int{0, 10, 20}}
	for i := range api.MaxSights {
		x.Sights = append(x.Sights, api.Sight{At: i * 1000, A: 1 + i%2, B: (2 * i) % 3 * (i % 2), Lo: -i, Hi: i})
	}
	for i, s := range x.Sights {
		if s.A == s.B {
			x.Sights[i].B = 0
		}
	}
	return x
}

// badSights are not valid in a net of two clocks.
func badSights() []api.Sight {
	return []api.Sight{
		{A: 0, B: 0}, {A: 1, B: 1}, {A: 2, B: 0}, {A: 0, B: 2}, {A: -1, B: 0}, {A: 0, B: -1}, {A: math.MinInt, B: math.MaxInt}, {A: math.MaxInt, B: math.MinInt},
		{At: -1, A: 1}, {At: api.MaxTime + 1, A: 1}, {At: math.MinInt, A: 1}, {At: math.MaxInt, A: 1},
		{A: 1, Lo: 1, Hi: 0}, {A: 1, Lo: 0, Hi: -1}, {A: 1, Lo: api.Day, Hi: -api.Day},
		{A: 1, Lo: -api.Day - 1, Hi: 0}, {A: 1, Lo: 0, Hi: api.Day + 1}, {A: 1, Lo: api.Day + 1, Hi: api.Day + 1}, {A: 1, Lo: -api.Day - 1, Hi: -api.Day - 1},
		{A: 1, Lo: math.MinInt, Hi: math.MaxInt}, {A: 1, Lo: math.MaxInt, Hi: math.MinInt}, {A: 1, Lo: math.MinInt, Hi: math.MinInt}, {A: 1, Lo: math.MaxInt, Hi: math.MaxInt},
	}
}

func badNets() []api.Net {
	l := []api.Net{
		{}, {Rates: []int{}}, {Rates: []int{0}}, {Rates: []int{1, 0}}, {Rates: []int{-1, 0}}, {Rates: []int{0, -1}}, {Rates: []int{0, api.MaxRate + 1}},
		{Rates: []int{0, 5, math.MinInt}}, {Rates: []int{0, math.MaxInt}}, {Rates: []int{math.MaxInt, 0}}, {Rates: make([]int, api.MaxClocks+1)}, {Rates: []int{0, 0, 0, 0, 0, 0, 0, -1}},
		{Sights: []api.Sight{{A: 1}}}, {Rates: []int{0}, Sights: []api.Sight{{A: 1}}},
	}
	for _, s := range badSights() {
		l = append(l, api.Net{Rates: []int{0, 10}, Sights: []api.Sight{s}}, api.Net{Rates: []int{0, 10}, Sights: []api.Sight{{A: 1, Lo: 1, Hi: 2}, {A: 1, Lo: 5, Hi: 6}, s}})
	}
	many := full()
	many.Sights = append(many.Sights, many.Sights[0])
	return append(l, many)
}

// anyNet has sights at random, which often contradict each other.
func anyNet(r *rand.Rand, clocks, sights int) api.Net {
	x := api.Net{Rates: make([]int, clocks)}
	for i := 1; i < clocks; i++ {
		x.Rates[i] = r.IntN(4) * 100000
	}
	for range sights {
		a := r.IntN(clocks)
		b := (a + 1 + r.IntN(clocks-1)) % clocks
		lo := r.IntN(21) - 10
		x.Sights = append(x.Sights, api.Sight{At: r.IntN(5) * 5000, A: a, B: b, Lo: lo, Hi: lo + r.IntN(8)})
	}
	return x
}

// truth is what a clock's error may be at some times: it changes by no more than its rate allows.
func truth(r *rand.Rand, rate int, times []int) map[int]int {
	errors := map[int]int{}
	last, at := r.IntN(2001)-1000, times[0]
	for _, next := range times {
		most := rate * (next - at) / 1000000000
		last += r.IntN(2*most+1) - most
		errors[next] = last
		at = next
	}
	return errors
}

// trueNet has sights that all have the truth, and so do not contradict each other.
func trueNet(r *rand.Rand, clocks, sights int) api.Net {
	x := api.Net{Rates: make([]int, clocks)}
	var times []int
	for range 6 {
		times = append(times, r.IntN(100000000))
	}
	slices.Sort(times)
	errors := []map[int]int{{}}
	for i := 1; i < clocks; i++ {
		x.Rates[i] = r.IntN(20000)
		errors = append(errors, truth(r, x.Rates[i], times))
	}
	for range sights {
		a := r.IntN(clocks)
		b := (a + 1 + r.IntN(clocks-1)) % clocks
		at := times[r.IntN(len(times))]
		difference := errors[a][at] - errors[b][at]
		x.Sights = append(x.Sights, api.Sight{At: at, A: a, B: b, Lo: difference - r.IntN(200), Hi: difference + r.IntN(200)})
	}
	return x
}

// nets are nets of all kinds.
func nets(n int) []api.Net {
	r := random()
	l := []api.Net{example(false), example(true), full(), {Rates: []int{0, 0}}, {Rates: []int{0, 5, 5, 5, 5, 5, 5, 5}}}
	for len(l) < n {
		clocks := 2 + r.IntN(4)
		if r.IntN(2) == 0 {
			l = append(l, anyNet(r, clocks, r.IntN(8)))
		} else {
			l = append(l, trueNet(r, clocks, r.IntN(14)))
		}
	}
	return l
}

// consistentNets are those of nets that do not contradict themselves, by the grid's word.
func consistentNets(t *testing.T, n int) []api.Net {
	t.Helper()
	var l []api.Net
	for _, x := range nets(n) {
		if gridOf(x, 0).consistent() {
			l = append(l, x)
		}
	}
	if len(l) < n/2 || len(l) == n {
		t.Fatal("the nets are too much alike:", len(l), "of", n)
	}
	return l
}

// far is more than any sum of steps is.
const far = 1 << 60

// grid is the chapter's section on nets by the letter: each clock, the sky too, has a point at each time of a sight and at one that is asked for.
type grid struct {
	net   api.Net
	times []int
	sums  [][]int
}

func gridOf(x api.Net, at int) grid {
	g := grid{net: x, times: []int{at}}
	for _, s := range x.Sights {
		g.times = append(g.times, s.At)
	}
	slices.Sort(g.times)
	g.times = slices.Compact(g.times)
	n := len(x.Rates) * len(g.times)
	for range n {
		g.sums = append(g.sums, slices.Repeat([]int{far}, n))
	}
	for clock := range x.Rates {
		for _, t := range g.times {
			for _, u := range g.times {
				g.lower(g.point(clock, t), g.point(clock, u), carryOf(x.Rates[clock], t-u))
			}
		}
	}
	for _, s := range x.Sights {
		g.lower(g.point(s.B, s.At), g.point(s.A, s.At), s.Hi)
		g.lower(g.point(s.A, s.At), g.point(s.B, s.At), -s.Lo)
	}
	g.sum()
	return g
}

// carryOf is the carry, exactly.
func carryOf(rate, dt int) int {
	up := big.NewRat(int64(rate), 1000000000)
	up.Mul(up, new(big.Rat).Abs(big.NewRat(int64(dt), 1)))
	whole, rest := new(big.Int).QuoRem(up.Num(), up.Denom(), new(big.Int))
	if rest.Sign() > 0 {
		return int(whole.Int64()) + 1
	}
	return int(whole.Int64())
}

func (g grid) point(clock, at int) int {
	i, _ := slices.BinarySearch(g.times, at)
	return clock*len(g.times) + i
}

func (g grid) lower(from, to, cost int) {
	g.sums[from][to] = min(g.sums[from][to], cost)
}

func (g grid) sum() {
	for via := range g.sums {
		for from := range g.sums {
			if g.sums[from][via] == far {
				continue
			}
			for to := range g.sums {
				if g.sums[via][to] != far {
					g.lower(from, to, max(g.sums[from][via]+g.sums[via][to], -far/2))
				}
			}
		}
	}
}

func (g grid) consistent() bool {
	for i := range g.sums {
		if g.sums[i][i] < 0 {
			return false
		}
	}
	return true
}

// between is what Between must return for clocks and a time that there are.
func (g grid) between(a, b, at int) (api.Span, api.Errno) {
	if !g.consistent() {
		return api.Span{}, api.ErrState
	}
	p, q := g.point(a, at), g.point(b, at)
	if g.sums[p][q] == far || g.sums[q][p] == far {
		return api.Span{}, api.ErrNone
	}
	return api.Span{Lo: -g.sums[p][q], Hi: g.sums[q][p]}, api.OK
}

// timesOf are some times to ask a net for.
func timesOf(x api.Net) []int {
	l := []int{0, 7777}
	for _, s := range x.Sights {
		l = append(l, s.At, s.At+1)
	}
	slices.Sort(l)
	return slices.Compact(l)
}

// known are the bounds of all clocks' differences at some times, and which there are.
type known struct {
	span api.Span
	e    api.Errno
}

func knownOf(x api.Net, times []int) []known {
	var l []known
	for _, at := range times {
		for a := range x.Rates {
			for b := range x.Rates {
				s, e := sight.Between(x, a, b, at)
				l = append(l, known{s, e})
			}
		}
	}
	return l
}

func within(inner, outer api.Span) bool {
	return outer.Lo <= inner.Lo && inner.Hi <= outer.Hi
}
