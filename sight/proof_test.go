package sight_test

import (
	"math"
	"slices"
	"testing"

	"noongun/api"
	"noongun/sight"
)

// proves is the chapter's sentence on proofs by the letter.
func proves(x api.Net, l []int) bool {
	sum := 0
	for k, n := range l {
		if n < 0 || n > 2*len(x.Sights)-1 {
			return false
		}
		next := l[(k+1)%len(l)]
		if next < 0 || next > 2*len(x.Sights)-1 {
			return false
		}
		end, endAt, cost := endOf(x, n)
		begin, beginAt, _ := endOf(x, next^1) // the other way round it ends where it begins
		if end != begin {
			return false
		}
		sum += cost
		if end != 0 {
			sum += carryOf(x.Rates[end], beginAt-endAt)
		}
	}
	return sum < 0
}

func endOf(x api.Net, n int) (clock, at, cost int) {
	s := x.Sights[n/2]
	if n%2 == 0 {
		return s.A, s.At, s.Hi
	}
	return s.B, s.At, -s.Lo
}

func checkConsistent(t *testing.T, x api.Net, want bool) {
	t.Helper()
	if c, e := sight.Consistent(x); c != want || e != api.OK {
		t.Fatal("Consistent", x, c, e)
	}
	l, e := sight.Conflict(x)
	if want {
		if len(l) != 0 || e != api.ErrNone {
			t.Fatal("Conflict", x, l, e)
		}
		return
	}
	if e != api.OK || len(l) > 1000 || !proves(x, l) || !sight.Proves(x, l) {
		t.Fatal("Conflict is no proof", x, l, e)
	}
}

func TestExampleOfAProof(t *testing.T) {
	x := example(true)
	if !sight.Proves(x, []int{0, 3}) || !sight.Proves(x, []int{3, 0}) {
		t.Error("0, 3")
	}
	checkConsistent(t, x, false)
	checkConsistent(t, example(false), true)
	for _, l := range [][]int{{0, 2}, {1, 2}, {2, 1}, {0, 1}, {1, 3}, {0}, {3}, {3, 3}} {
		if sight.Proves(x, l) {
			t.Error("no proof", l)
		}
	}
}

func TestNothingContradicts(t *testing.T) {
	for _, x := range []api.Net{
		{Rates: []int{0, 0}}, {Rates: make([]int, api.MaxClocks)}, {Rates: []int{0, 0}, Sights: []api.Sight{{A: 1, Lo: -api.Day, Hi: -api.Day}}}, full(),
		{Rates: []int{0, 0}, Sights: []api.Sight{{A: 1, Lo: 1, Hi: 2}, {A: 1, Lo: 2, Hi: 3}, {At: api.MaxTime, B: 1, Lo: -2, Hi: -2}}},
	} {
		checkConsistent(t, x, true)
	}
}

// A carry is rounded up: a change by 1 is not contradictory, by 2 it is, however little the rate allows.
func TestContradictionsByARoundedCarry(t *testing.T) {
	for _, c := range []struct {
		rate, dt, change int
		want             bool
	}{
		{1, 1, 1, true}, {1, 1, -1, true}, {1, 1, 2, false}, {1, 1, -2, false}, {0, 1, 0, true}, {0, 1, 1, false}, {0, api.MaxTime, -1, false},
		{1, 1000000000, 1, true}, {1, 1000000000, 2, false}, {1, 1000000001, 2, true}, {10000, 100001, 2, true}, {10000, 100000, 2, false}, {10000, 99999, -2, false},
	} {
		for _, other := range []int{0, 2} { // a clock that never changes, as the sky
			x := api.Net{Rates: []int{0, c.rate, 0}, Sights: []api.Sight{{At: 7, A: 1, B: other, Lo: 50, Hi: 50}, {At: 7 + c.dt, A: 1, B: other, Lo: 50 + c.change, Hi: 50 + c.change}}}
			if x.Sights[1].At > api.MaxTime {
				x.Sights[0].At, x.Sights[1].At = 0, api.MaxTime
			}
			checkConsistent(t, x, c.want)
		}
	}
	// By the parts of the time, through the time between, the clock might change by 2.
	x := api.Net{Rates: []int{0, 1, 0}, Sights: []api.Sight{{At: 0, A: 1}, {At: 10, A: 1, B: 2, Lo: -9, Hi: 9}, {At: 20, A: 1, Lo: 2, Hi: 2}}}
	checkConsistent(t, x, false)
}

func TestContradictionsAcrossTheSky(t *testing.T) {
	// Two clocks that never change, each seen of the sky, far from each other in time, and of each other.
	x := api.Net{Rates: []int{0, 0, 0}, Sights: []api.Sight{{At: 0, A: 1, B: 0, Lo: 5, Hi: 5}, {At: api.MaxTime, A: 0, B: 2, Lo: -8, Hi: -8}, {At: 44, A: 2, B: 1, Lo: 3, Hi: 3}}}
	checkConsistent(t, x, true)
	x.Sights[2].Hi = 4
	checkConsistent(t, x, true)
	x.Sights[2].Lo = 4
	checkConsistent(t, x, false)
	x.Sights[2].Lo, x.Sights[2].Hi = 2, 2
	checkConsistent(t, x, false)
	// The same among clocks of which none is the sky.
	y := api.Net{Rates: []int{0, 0, 0, 0}, Sights: []api.Sight{{A: 1, B: 3, Lo: 5, Hi: 5}, {A: 3, B: 2, Lo: -8, Hi: -8}, {A: 2, B: 1, Lo: 4, Hi: 4}}}
	checkConsistent(t, y, false)
	// Two sights of one pair at one time.
	z := api.Net{Rates: []int{0, 9, 9}, Sights: []api.Sight{{At: 5, A: 1, B: 2, Lo: 1, Hi: 2}, {At: 5, A: 2, B: 1, Lo: 0, Hi: 1}}}
	checkConsistent(t, z, false)
}

// The longest circle there can be: all clocks, each seen of the one behind at one time and of the one before at another time.
func TestLongCircles(t *testing.T) {
	for _, c := range []struct {
		last int
		want bool
	}{{-1, false}, {0, true}, {7, true}, {14, true}, {15, false}} {
		x := api.Net{Rates: []int{0, 1000, 1000, 1000, 1000, 1000, 1000, 1000}} // each clock but the sky carries 1
		for clock := range api.MaxClocks {
			x.Sights = append(x.Sights, api.Sight{At: clock % 2, A: clock, B: (clock + 1) % api.MaxClocks, Lo: -1, Hi: -1})
		}
		x.Sights[7].Lo, x.Sights[7].Hi = c.last, c.last
		checkConsistent(t, x, c.want)
		down, up := []int{14, 12, 10, 8, 6, 4, 2, 0}, []int{1, 3, 5, 7, 9, 11, 13, 15}
		if sight.Proves(x, down) != (c.last < 0) || sight.Proves(x, up) != (c.last > 14) {
			t.Error("round", c)
		}
		slices.Reverse(down)
		slices.Reverse(up)
		if sight.Proves(x, down) || sight.Proves(x, up) {
			t.Error("against the steps", c)
		}
	}
}

func TestConsistentByTheLetter(t *testing.T) {
	met := map[bool]int{}
	for _, x := range nets(1500) {
		want := gridOf(x, 0).consistent()
		checkConsistent(t, x, want)
		met[want]++
	}
	if met[true] < 300 || met[false] < 300 {
		t.Error("hardly tried", met)
	}
}

func TestContradictionsOfManySights(t *testing.T) {
	r := random()
	for range 60 {
		x := trueNet(r, api.MaxClocks, api.MaxSights-1)
		checkConsistent(t, x, true)
		a := 1 + r.IntN(api.MaxClocks-1)
		bounds, e := sight.Error(x, a, 50000000)
		if e != api.OK {
			continue
		}
		for _, c := range []struct {
			error int
			want  bool
		}{{bounds.Lo - 1, false}, {bounds.Lo, true}, {bounds.Hi, true}, {bounds.Hi + 1, false}} {
			y, _ := sight.Added(x, api.Sight{At: 50000000, A: a, B: 0, Lo: c.error, Hi: c.error})
			checkConsistent(t, y, c.want)
		}
	}
}

// all calls f with each list of marks (and of numbers that are none) of a length.
func all(marks, length int, list []int, f func(l []int)) {
	if len(list) == length {
		f(list)
		return
	}
	for n := -1; n <= marks; n++ {
		all(marks, length, append(list, n), f)
	}
}

// If some list is a proof, the net contradicts itself.
func TestEachListByTheLetter(t *testing.T) {
	r := random()
	proofs := 0
	for range 150 {
		x := anyNet(r, 2+r.IntN(2), 1+r.IntN(3))
		consistent := gridOf(x, 0).consistent()
		for length := range 5 {
			all(2*len(x.Sights), length, nil, func(l []int) {
				want := proves(x, l)
				if sight.Proves(x, l) != want || want && consistent {
					t.Fatal(x, l, want, consistent)
				}
				if want {
					proofs++
				}
			})
		}
	}
	if proofs < 100 {
		t.Error("hardly tried", proofs)
	}
}

func TestProvesOfWrongLists(t *testing.T) {
	x := example(true)
	for _, l := range [][]int{
		nil, {}, {4}, {-1}, {-2}, {5, 0, 3}, {0, 3, 4}, {0, 3, -1}, {-1, 0, 3}, {-4, 3}, {0, -1},
		{math.MinInt}, {math.MaxInt}, {0, 3, math.MinInt}, {math.MaxInt, 0, 3}, {0, math.MaxInt, 3}, {0, 3, 0}, {3, 0, 3},
	} {
		if sight.Proves(x, l) {
			t.Error(l)
		}
	}
	if sight.Proves(api.Net{Rates: []int{0, 0}}, []int{0}) || sight.Proves(api.Net{Rates: []int{0, 0}}, nil) {
		t.Error("a net without sights")
	}
	// A sum of 0 is no contradiction.
	y := api.Net{Rates: []int{0, 0}, Sights: []api.Sight{{A: 1, Lo: 5, Hi: 5}, {At: 9, A: 1, Lo: 5, Hi: 5}}}
	for _, l := range [][]int{{0, 3}, {2, 1}, {0, 1}, {0, 3, 0, 3}} {
		if sight.Proves(y, l) {
			t.Error("a sum of 0", l)
		}
	}
}

// A proof may have any length: the list may go round twice and more, and take a sight there and back.
func TestProofsOfAnyLength(t *testing.T) {
	x := example(true)
	for _, l := range [][]int{{0, 3, 0, 3}, {3, 0, 3, 0, 3, 0}, {0, 1, 0, 3}, {2, 3, 0, 3}} {
		if !sight.Proves(x, l) || !proves(x, l) {
			t.Error(l)
		}
	}
	if !sight.Proves(x, slices.Repeat([]int{0, 3}, 200000)) {
		t.Error("round and round")
	}
	if sight.Proves(x, append(slices.Repeat([]int{0, 3}, 200000), 0)) || sight.Proves(x, append(slices.Repeat([]int{0, 3}, 200000), 4)) {
		t.Error("round and round, and wrong at the end")
	}
	if sight.Proves(x, append(slices.Repeat([]int{2, 1}, 200000), 0, 3)) {
		t.Error("far more is lost than won")
	}
}
