package sight_test

import (
	"math"
	"testing"

	"noongun/api"
	"noongun/sight"
)

func checkBetween(t *testing.T, x api.Net, a, b, at int, want api.Span, wantError api.Errno) {
	t.Helper()
	if s, e := sight.Between(x, a, b, at); s != want || e != wantError {
		t.Errorf("Between(%v, %d, %d, %d) = %v, %d, not %v, %d", x, a, b, at, s, e, want, wantError)
	}
	if b != 0 {
		return
	}
	if s, e := sight.Error(x, a, at); s != want || e != wantError {
		t.Errorf("Error(%v, %d, %d) = %v, %d, not %v, %d", x, a, at, s, e, want, wantError)
	}
	if w, e := sight.Width(x, a, at); w != want.Hi-want.Lo || e != wantError {
		t.Errorf("Width(%v, %d, %d) = %d, %d", x, a, at, w, e)
	}
}

func TestExampleOfBounds(t *testing.T) {
	x := example(false)
	checkBetween(t, x, 1, 0, 1000000, api.Span{Lo: 90, Hi: 110}, api.OK)
	checkBetween(t, x, 1, 0, 0, api.Span{Lo: 100, Hi: 100}, api.OK)
	checkBetween(t, x, 1, 0, 1, api.Span{Lo: 99, Hi: 101}, api.OK)
	checkBetween(t, x, 0, 1, 1000000, api.Span{Lo: -110, Hi: -90}, api.OK)
	checkBetween(t, x, 1, 0, api.MaxTime, api.Span{Lo: 100 - 10000000, Hi: 100 + 10000000}, api.OK)
	checkBetween(t, example(true), 1, 0, 1000000, api.Span{}, api.ErrState)
}

func TestNetWithoutSights(t *testing.T) {
	x := api.Net{Rates: []int{0, 5, 0}}
	for _, at := range []int{0, 1, api.MaxTime} {
		for a := range 3 {
			for b := range 3 {
				want := api.ErrNone
				if a == b {
					want = api.OK
				}
				checkBetween(t, x, a, b, at, api.Span{}, want)
			}
		}
		if clock, e := sight.Best(x, at); clock != 0 || e != api.ErrNone {
			t.Error("Best", clock, e)
		}
	}
}

// All points of the sky are one: what was seen of it at far times is joined without a carry.
func TestSkyIsOnePoint(t *testing.T) {
	x := api.Net{Rates: []int{0, 10, 0}, Sights: []api.Sight{{At: 0, A: 1, B: 0, Lo: 5, Hi: 6}, {At: api.MaxTime, A: 0, B: 2, Lo: 1, Hi: 2}}}
	checkBetween(t, x, 1, 2, 0, api.Span{Lo: 6, Hi: 8}, api.OK)
	checkBetween(t, x, 2, 0, 500, api.Span{Lo: -2, Hi: -1}, api.OK)
	checkBetween(t, x, 1, 2, api.MaxTime, api.Span{Lo: 6 - 10000, Hi: 8 + 10000}, api.OK)
}

func TestSightsBothWaysAndEarlierTimes(t *testing.T) {
	x := api.Net{Rates: []int{0, 1000000, 1000000}, Sights: []api.Sight{{At: 9000, A: 1, B: 0, Lo: 20, Hi: 30}, {At: 5000, A: 1, B: 2, Lo: -3, Hi: 4}}}
	checkBetween(t, x, 1, 0, 9000, api.Span{Lo: 20, Hi: 30}, api.OK)
	checkBetween(t, x, 1, 0, 5000, api.Span{Lo: 16, Hi: 34}, api.OK)
	checkBetween(t, x, 1, 0, 0, api.Span{Lo: 11, Hi: 39}, api.OK)
	checkBetween(t, x, 2, 0, 5000, api.Span{Lo: 12, Hi: 37}, api.OK)
	checkBetween(t, x, 2, 0, 4000, api.Span{Lo: 11, Hi: 38}, api.OK)
	checkBetween(t, x, 2, 1, 4000, api.Span{Lo: -6, Hi: 5}, api.OK)
	checkBetween(t, x, 1, 1, 4000, api.Span{}, api.OK)
	checkBetween(t, x, 0, 2, 5000, api.Span{Lo: -37, Hi: -12}, api.OK)
}

// A clock that no sight joins is not bounded, and does not matter to the others.
func TestClockThatNoSightJoins(t *testing.T) {
	x := example(false)
	x.Rates = append(x.Rates, 7, 8)
	x.Sights = append(x.Sights, api.Sight{At: 5, A: 2, B: 3, Lo: 1, Hi: 1})
	checkBetween(t, x, 1, 0, 1000000, api.Span{Lo: 90, Hi: 110}, api.OK)
	checkBetween(t, x, 2, 0, 5, api.Span{}, api.ErrNone)
	checkBetween(t, x, 2, 1, 5, api.Span{}, api.ErrNone)
	checkBetween(t, x, 1, 3, 5, api.Span{}, api.ErrNone)
	checkBetween(t, x, 2, 3, 5, api.Span{Lo: 1, Hi: 1}, api.OK)
	checkBetween(t, x, 3, 3, 5, api.Span{}, api.OK)
	checkBetween(t, x, 0, 0, 5, api.Span{}, api.OK)
}

// A net that contradicts itself has no bounds at all, also of clocks that are not concerned.
func TestNoBoundsOfAContradiction(t *testing.T) {
	x := example(true)
	x.Rates = append(x.Rates, 0, 0)
	x.Sights = append(x.Sights, api.Sight{At: 0, A: 2, B: 0, Lo: 1, Hi: 1})
	for a := range x.Rates {
		for b := range x.Rates {
			checkBetween(t, x, a, b, 0, api.Span{}, api.ErrState)
		}
	}
	if clock, e := sight.Best(x, 0); clock != 0 || e != api.ErrState {
		t.Error("Best", clock, e)
	}
	// Here the contradiction is among clocks that nothing joins to the sky.
	x = api.Net{Rates: []int{0, 0, 0, 0}, Sights: []api.Sight{{A: 1, B: 0, Lo: 1, Hi: 1}, {A: 2, B: 3, Lo: 1, Hi: 1}, {At: 9, A: 3, B: 2, Lo: 1, Hi: 1}}}
	for a := range x.Rates {
		checkBetween(t, x, a, 0, 0, api.Span{}, api.ErrState)
	}
}

func TestEndsAtDayAndBeyond(t *testing.T) {
	const day = api.Day
	x := api.Net{Rates: []int{0, 0, 0, api.MaxRate}, Sights: []api.Sight{
		{A: 1, B: 0, Lo: day, Hi: day}, {A: 2, B: 1, Lo: day, Hi: day}, {A: 0, B: 3, Lo: day, Hi: day},
	}}
	checkBetween(t, x, 1, 0, 99, api.Span{Lo: day, Hi: day}, api.OK)
	checkBetween(t, x, 2, 0, 99, api.Span{Lo: 2 * day, Hi: 2 * day}, api.OK)
	checkBetween(t, x, 3, 0, 0, api.Span{Lo: -day, Hi: -day}, api.OK)
	checkBetween(t, x, 2, 3, 0, api.Span{Lo: 3 * day, Hi: 3 * day}, api.OK)
	checkBetween(t, x, 3, 0, api.MaxTime, api.Span{Lo: -day - 1000000000, Hi: -day + 1000000000}, api.OK)
	// Spans from end to end say little, but join.
	wide := api.Net{Rates: []int{0, 0}, Sights: []api.Sight{{A: 1, B: 0, Lo: -day, Hi: day}}}
	checkBetween(t, wide, 1, 0, 0, api.Span{Lo: -day, Hi: day}, api.OK)
}

// The longest way: each clock is told by the one before, as far from its time as can be.
func TestFarthestBounds(t *testing.T) {
	x := api.Net{Rates: []int{0, api.MaxRate, api.MaxRate, api.MaxRate, api.MaxRate, api.MaxRate, api.MaxRate, api.MaxRate}}
	for clock := 1; clock < api.MaxClocks; clock++ {
		x.Sights = append(x.Sights, api.Sight{At: clock % 2 * api.MaxTime, A: clock, B: clock - 1, Lo: api.Day, Hi: api.Day})
	}
	const carry = 1000000000
	checkBetween(t, x, 7, 0, 0, api.Span{Lo: 7*api.Day - 7*carry, Hi: 7*api.Day + 7*carry}, api.OK)
	checkBetween(t, x, 7, 0, api.MaxTime, api.Span{Lo: 7*api.Day - 6*carry, Hi: 7*api.Day + 6*carry}, api.OK)
}

// A carry for the whole time may be less than those for its parts, as each is rounded up.
func TestCarriesOfParts(t *testing.T) {
	x := api.Net{Rates: []int{0, 1, 0}, Sights: []api.Sight{{At: 0, A: 1, B: 0}, {At: 10, A: 1, B: 2}, {At: 20, A: 1, B: 2, Lo: -5, Hi: 5}}}
	checkBetween(t, x, 1, 0, 10, api.Span{Lo: -1, Hi: 1}, api.OK)
	checkBetween(t, x, 1, 0, 20, api.Span{Lo: -1, Hi: 1}, api.OK)
	checkBetween(t, x, 1, 0, 30, api.Span{Lo: -1, Hi: 1}, api.OK)
	checkBetween(t, x, 2, 0, 30, api.Span{Lo: -1, Hi: 1}, api.OK)
}

func TestBoundsByTheLetter(t *testing.T) {
	met := map[api.Errno]int{}
	for _, x := range nets(400) {
		for _, at := range []int{0, 7777, 10000, 50000000, api.MaxTime} {
			g := gridOf(x, at)
			for a := range x.Rates {
				for b := range x.Rates {
					want, wantError := g.between(a, b, at)
					checkBetween(t, x, a, b, at, want, wantError)
					met[wantError]++
				}
			}
		}
	}
	if met[api.OK] < 1000 || met[api.ErrNone] < 100 || met[api.ErrState] < 1000 {
		t.Error("hardly tried", met)
	}
}

// seen is what errors that satisfy all of a small net can be.
type seen struct {
	spans map[[3]int]api.Span
	some  bool
}

// worlds tries all errors from -most to most of two clocks at two times.
func worlds(x api.Net, most int, times [2]int) seen {
	r := seen{spans: map[[3]int]api.Span{}}
	var carries [3]int
	for clock, rate := range x.Rates {
		carries[clock] = carryOf(rate, times[1]-times[0])
	}
	for i := range power(2*most+1, 4) {
		var errors [3][2]int
		for clock := 1; clock <= 2; clock++ {
			for k := range times {
				errors[clock][k] = i%(2*most+1) - most
				i /= 2*most + 1
			}
		}
		if carriesHold(carries, errors) && sightsHold(x, errors, times) {
			r.add(errors)
		}
	}
	return r
}

func power(n, times int) int {
	p := 1
	for range times {
		p *= n
	}
	return p
}

func carriesHold(carries [3]int, errors [3][2]int) bool {
	for clock, most := range carries {
		if change := errors[clock][1] - errors[clock][0]; change > most || change < -most {
			return false
		}
	}
	return true
}

func sightsHold(x api.Net, errors [3][2]int, times [2]int) bool {
	for _, s := range x.Sights {
		k := 0
		if s.At == times[1] {
			k = 1
		}
		if d := errors[s.A][k] - errors[s.B][k]; d < s.Lo || d > s.Hi {
			return false
		}
	}
	return true
}

func (r *seen) add(errors [3][2]int) {
	for a := range errors {
		for b := range errors {
			for k := range 2 {
				d := errors[a][k] - errors[b][k]
				s, old := r.spans[[3]int{a, b, k}]
				if !old {
					s = api.Span{Lo: d, Hi: d}
				}
				r.spans[[3]int{a, b, k}] = api.Span{Lo: min(s.Lo, d), Hi: max(s.Hi, d)}
			}
		}
	}
	r.some = true
}

// Bounds are just what the errors can be, and a net that contradicts itself is one that no errors satisfy.
func TestBoundsAreAsTightAsCanBe(t *testing.T) {
	r := random()
	times := [2]int{1000, 3000}
	contradictions := 0
	for range 150 {
		x := api.Net{Rates: []int{0, r.IntN(3) * 500000, r.IntN(3) * 500000}}
		// Two sights of the sky keep all errors near 0, so that trying is enough.
		x.Sights = []api.Sight{{At: times[r.IntN(2)], A: 1, B: 0, Lo: -2, Hi: r.IntN(3)}, {At: times[r.IntN(2)], A: 0, B: 2, Lo: -r.IntN(3), Hi: 1}}
		for range r.IntN(3) {
			lo := r.IntN(7) - 3
			a := r.IntN(3)
			x.Sights = append(x.Sights, api.Sight{At: times[r.IntN(2)], A: a, B: (a + 1 + r.IntN(2)) % 3, Lo: lo, Hi: lo + r.IntN(2)})
		}
		w := worlds(x, 5, times)
		if !w.some {
			contradictions++
		}
		checkWorlds(t, x, w, times)
	}
	if contradictions < 15 || contradictions > 135 {
		t.Error("hardly tried", contradictions)
	}
}

func checkWorlds(t *testing.T, x api.Net, w seen, times [2]int) {
	t.Helper()
	if c, e := sight.Consistent(x); c != w.some || e != api.OK {
		t.Fatal("Consistent", x, c, e)
	}
	for a := range 3 {
		for b := range 3 {
			for k, at := range times {
				want := api.OK
				if !w.some {
					want = api.ErrState
				}
				checkBetween(t, x, a, b, at, w.spans[[3]int{a, b, k}], want)
			}
		}
	}
}

func TestBoundsErrors(t *testing.T) {
	x, torn := example(false), example(true)
	for _, clock := range []int{-1, 2, math.MinInt, math.MaxInt} {
		for _, at := range []int{0, -1, api.MaxTime + 1} {
			for _, y := range []api.Net{x, torn} {
				checkBetween(t, y, clock, 0, at, api.Span{}, api.ErrName)
				checkBetween(t, y, 1, clock, at, api.Span{}, api.ErrName)
				checkBetween(t, y, clock, clock, at, api.Span{}, api.ErrName)
			}
		}
	}
	for _, at := range []int{-1, api.MaxTime + 1, math.MinInt, math.MaxInt} {
		for _, y := range []api.Net{x, torn, {Rates: []int{0, 0}}} {
			checkBetween(t, y, 1, 0, at, api.Span{}, api.ErrRange)
			checkBetween(t, y, 0, 0, at, api.Span{}, api.ErrRange)
			checkBetween(t, y, 1, 1, at, api.Span{}, api.ErrRange)
			if clock, e := sight.Best(y, at); clock != 0 || e != api.ErrRange {
				t.Error("Best", y, at, clock, e)
			}
		}
	}
}

func TestBest(t *testing.T) {
	x := api.Net{Rates: []int{0, 0, 1000000, 5, 0}, Sights: []api.Sight{
		{At: 1000, A: 1, B: 0, Lo: 10, Hi: 20}, {At: 1000, A: 2, B: 0, Lo: 3, Hi: 7}, {At: 0, A: 3, B: 0, Lo: 0, Hi: 10},
	}}
	for _, c := range []struct{ at, want int }{{1000, 2}, {3000, 2}, {4000, 1}, {5000, 1}, {0, 2}, {api.MaxTime, 1}} {
		if clock, e := sight.Best(x, c.at); clock != c.want || e != api.OK {
			t.Error(c, clock, e)
		}
	}
	y := api.Net{Rates: []int{0, 0, 0, 0}, Sights: []api.Sight{{A: 3, B: 0, Lo: 1, Hi: 4}, {A: 0, B: 2, Lo: 5, Hi: 8}}}
	if clock, e := sight.Best(y, 9); clock != 2 || e != api.OK {
		t.Error("of several the least number, and clock 1 is not bounded", clock, e)
	}
	z := api.Net{Rates: []int{0, 0, 0}, Sights: []api.Sight{{A: 1, B: 2}}}
	if clock, e := sight.Best(z, 9); clock != 0 || e != api.ErrNone {
		t.Error("nothing is bounded but the sky", clock, e)
	}
}

func TestBestIsTheLeastWidth(t *testing.T) {
	for _, x := range consistentNets(t, 200) {
		for _, at := range timesOf(x) {
			want, least := 0, far
			for clock := 1; clock < len(x.Rates); clock++ {
				if w, e := sight.Width(x, clock, at); e == api.OK && w < least {
					want, least = clock, w
				}
			}
			clock, e := sight.Best(x, at)
			if clock != want || (e == api.ErrNone) != (want == 0) || e != api.OK && e != api.ErrNone {
				t.Fatal(x, at, clock, e)
			}
		}
	}
}

// A further sight makes no bounds wider, and nothing unbounded that was bounded.
func TestNeverWider(t *testing.T) {
	tried := 0
	for _, x := range consistentNets(t, 80) {
		for i := range x.Sights {
			y, _ := sight.Without(x, i)
			back, e := sight.Added(y, x.Sights[i])
			if e != api.OK {
				t.Fatal(e)
			}
			times := timesOf(x)
			less, more := knownOf(y, times), knownOf(back, times)
			for k := range less {
				if less[k].e == api.OK && (more[k].e != api.OK || !within(more[k].span, less[k].span)) || less[k].e == api.ErrState {
					t.Fatal(x, i, less[k], more[k])
				}
				tried++
			}
		}
	}
	if tried < 10000 {
		t.Error("hardly tried", tried)
	}
}

func TestOrder(t *testing.T) {
	for _, x := range consistentNets(t, 150) {
		for _, at := range timesOf(x) {
			for a := range x.Rates {
				for b := range x.Rates {
					checkOrder(t, x, a, b, at)
				}
			}
		}
	}
}

func checkOrder(t *testing.T, x api.Net, a, b, at int) {
	t.Helper()
	ab, e := sight.Between(x, a, b, at)
	ba, back := sight.Between(x, b, a, at)
	if e != back || ba != (api.Span{Lo: -ab.Hi, Hi: -ab.Lo}) {
		t.Fatal("not opposite", x, a, b, at, ab, ba)
	}
	for c := range x.Rates {
		ac, e1 := sight.Between(x, a, c, at)
		cb, e2 := sight.Between(x, c, b, at)
		if e1 != api.OK || e2 != api.OK {
			continue
		}
		if e != api.OK || !within(ab, api.Span{Lo: ac.Lo + cb.Lo, Hi: ac.Hi + cb.Hi}) {
			t.Fatal("beyond the sum", x, a, b, c, at, ab, ac, cb)
		}
	}
}
