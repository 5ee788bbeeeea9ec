package sight_test

import (
	"math"
	"slices"
	"testing"

	"noongun/api"
	"noongun/sight"
)

func TestValid(t *testing.T) {
	for _, x := range append(nets(100),
		api.Net{Rates: []int{0, api.MaxRate}, Sights: []api.Sight{}},
		api.Net{Rates: make([]int, api.MaxClocks), Sights: []api.Sight{{At: api.MaxTime, A: 0, B: 7, Lo: -api.Day, Hi: api.Day}}},
		api.Net{Rates: []int{0, 0}, Sights: []api.Sight{{A: 1, Lo: api.Day, Hi: api.Day}, {A: 1, Lo: -api.Day, Hi: -api.Day}}}, // contradicts itself
	) {
		if !sight.Valid(x) {
			t.Error("valid", x)
		}
	}
	for _, x := range badNets() {
		if sight.Valid(x) {
			t.Error("not valid", x)
		}
	}
}

// No function takes a net that is not valid, whatever else is wrong.
func TestNetsThatAreNotValid(t *testing.T) {
	for _, x := range badNets() {
		for _, n := range []int{0, 1, -1, math.MinInt, math.MaxInt} {
			checkInvalid(t, x, n)
		}
	}
}

func checkInvalid(t *testing.T, x api.Net, n int) {
	t.Helper()
	var errors []api.Errno
	add := func(e api.Errno) { errors = append(errors, e) }
	_, e := sight.Carry(x, n, n)
	add(e)
	_, e = sight.Consistent(x)
	add(e)
	_, e = sight.Conflict(x)
	add(e)
	_, e = sight.Error(x, n, n)
	add(e)
	_, e = sight.Between(x, n, n, n)
	add(e)
	_, e = sight.Best(x, n)
	add(e)
	_, e = sight.Width(x, n, n)
	add(e)
	_, e = sight.Implied(x, n)
	add(e)
	_, e = sight.Tight(x)
	add(e)
	_, e = sight.Needed(x)
	add(e)
	_, e = sight.Added(x, api.Sight{A: 1})
	add(e)
	_, e = sight.Without(x, n)
	add(e)
	_, e = sight.Shifted(x, n, n)
	add(e)
	_, e = sight.Last(x, n)
	add(e)
	_, e = sight.Joined(x)
	add(e)
	for i, e := range errors {
		if e != api.ErrInvalid {
			t.Error(i, x, n, e)
		}
	}
	if sight.Proves(x, []int{0}) || sight.Proves(x, []int{0, 3}) || sight.Proves(x, nil) || sight.Format(x) != "" {
		t.Error("Proves, Format", x)
	}
}

func TestCarry(t *testing.T) {
	for _, c := range []struct{ rate, dt, want int }{
		{10000, 1000000, 10}, {10000, 0, 0}, {0, api.MaxTime, 0}, {1, 1, 1}, {1, 999999999, 1}, {1, 1000000000, 1}, {1, 1000000001, 2}, {1, api.MaxTime, 1000},
		{10000, 99999, 1}, {10000, 100000, 1}, {10000, 100001, 2}, {api.MaxRate, api.MaxTime, 1000000000}, {api.MaxRate, api.MaxTime - 1, 1000000000}, {api.MaxRate, 999, 1}, {api.MaxRate, 1001, 2}, {999999, api.MaxTime, 999999000},
	} {
		x := api.Net{Rates: []int{0, 7, c.rate}}
		if n, e := sight.Carry(x, 2, c.dt); n != c.want || e != api.OK {
			t.Error(c, n, e)
		}
		if n, e := sight.Carry(x, 0, c.dt); n != 0 || e != api.OK {
			t.Error("the sky's", c, n, e)
		}
	}
	r := random()
	for range 5000 {
		rate, dt := r.IntN(api.MaxRate+1), r.IntN([]int{1000, 1000000, api.MaxTime}[r.IntN(3)]+1)
		if n, e := sight.Carry(api.Net{Rates: []int{0, rate}}, 1, dt); n != carryOf(rate, dt) || e != api.OK {
			t.Fatal(rate, dt, n, e)
		}
	}
}

func TestCarryErrors(t *testing.T) {
	for _, c := range []struct {
		clock, dt int
		e         api.Errno
	}{
		{-1, 0, api.ErrName}, {2, 0, api.ErrName}, {2, -1, api.ErrName}, {math.MinInt, math.MinInt, api.ErrName}, {math.MaxInt, 0, api.ErrName},
		{1, -1, api.ErrRange}, {0, -1, api.ErrRange}, {1, api.MaxTime + 1, api.ErrRange}, {1, math.MinInt, api.ErrRange}, {1, math.MaxInt, api.ErrRange},
	} {
		if n, e := sight.Carry(example(true), c.clock, c.dt); n != 0 || e != c.e {
			t.Error(c, n, e)
		}
	}
}

func TestAdded(t *testing.T) {
	x, s := example(false), example(true).Sights[1]
	if y, e := sight.Added(x, s); !same(y, example(true)) || e != api.OK {
		t.Error("a sight that contradicts the others is added too", y, e)
	}
	for _, bad := range badSights() {
		if y, e := sight.Added(x, bad); !same(y, api.Net{}) || e != api.ErrInvalid {
			t.Error(bad, y, e)
		}
		if y, e := sight.Added(full(), api.Sight{At: bad.At, A: 3 * bad.A, B: 3 * bad.B, Lo: bad.Lo, Hi: bad.Hi}); !same(y, api.Net{}) || e != api.ErrInvalid {
			t.Error("ErrInvalid comes before ErrLimit", bad, y, e)
		}
	}
	y := api.Net{Rates: []int{0, 10, 20}}
	for i, s := range full().Sights {
		var e api.Errno
		y, e = sight.Added(y, s)
		if e != api.OK || len(y.Sights) != i+1 {
			t.Fatal(i, y, e)
		}
	}
	if !same(y, full()) {
		t.Error("one after the other", y)
	}
	if z, e := sight.Added(y, s); !same(z, api.Net{}) || e != api.ErrLimit {
		t.Error("one more than MaxSights", z, e)
	}
}

func TestWithout(t *testing.T) {
	for _, x := range append(nets(40), full()) {
		for i := range x.Sights {
			want := api.Net{Rates: x.Rates, Sights: slices.Concat(x.Sights[:i], x.Sights[i+1:])}
			if y, e := sight.Without(x, i); !same(y, want) || e != api.OK {
				t.Error(x, i, y, e)
			}
		}
		for _, i := range []int{-1, len(x.Sights), len(x.Sights) + 1, math.MinInt, math.MaxInt} {
			if y, e := sight.Without(x, i); !same(y, api.Net{}) || e != api.ErrName {
				t.Error(x, i, y, e)
			}
		}
	}
}

func TestShiftedSights(t *testing.T) {
	x := api.Net{Rates: []int{0, 1, 2}, Sights: []api.Sight{
		{At: 5, A: 1, B: 0, Lo: 10, Hi: 20}, {At: 6, A: 0, B: 1, Lo: -20, Hi: -10}, {At: 7, A: 2, B: 0, Lo: 3, Hi: 4}, {At: 8, A: 2, B: 1, Lo: 0, Hi: 9},
	}}
	want := api.Net{Rates: []int{0, 1, 2}, Sights: []api.Sight{
		{At: 5, A: 1, B: 0, Lo: 17, Hi: 27}, {At: 6, A: 0, B: 1, Lo: -27, Hi: -17}, {At: 7, A: 2, B: 0, Lo: 3, Hi: 4}, {At: 8, A: 2, B: 1, Lo: -7, Hi: 2},
	}}
	if y, e := sight.Shifted(x, 1, 7); !same(y, want) || e != api.OK {
		t.Error(y, e)
	}
	if y, e := sight.Shifted(want, 1, -7); !same(y, x) || e != api.OK {
		t.Error("back", y, e)
	}
	if y, e := sight.Shifted(x, 1, 0); !same(y, x) || e != api.OK {
		t.Error("by nothing", y, e)
	}
	if y, e := sight.Shifted(example(true), 1, 1); e != api.OK || y.Sights[0].Lo != 101 || y.Sights[1].Hi != 161 {
		t.Error("a net that contradicts itself", y, e)
	}
}

func TestShiftedErrors(t *testing.T) {
	x := api.Net{Rates: []int{0, 1, 2, 3}, Sights: []api.Sight{{A: 1, B: 0, Lo: -10, Hi: 20}, {A: 0, B: 2, Lo: -10, Hi: 20}}}
	for _, c := range []struct {
		clock, by int
		e         api.Errno
	}{
		{0, 0, api.ErrName}, {-1, 0, api.ErrName}, {4, 0, api.ErrName}, {0, api.Day + 1, api.ErrName}, {math.MinInt, math.MinInt, api.ErrName}, {math.MaxInt, math.MaxInt, api.ErrName},
		{1, api.Day + 1, api.ErrRange}, {1, -api.Day - 1, api.ErrRange}, {3, api.Day + 1, api.ErrRange}, {1, math.MinInt, api.ErrRange}, {1, math.MaxInt, api.ErrRange},
		{1, api.Day - 19, api.ErrLimit}, {1, api.Day, api.ErrLimit}, {1, -api.Day + 9, api.ErrLimit}, {1, -api.Day, api.ErrLimit},
		{2, api.Day - 9, api.ErrLimit}, {2, -api.Day + 19, api.ErrLimit},
		{1, api.Day - 20, api.OK}, {1, -api.Day + 10, api.OK}, {2, api.Day - 10, api.OK}, {2, -api.Day + 20, api.OK}, {3, api.Day, api.OK}, {3, -api.Day, api.OK},
	} {
		y, e := sight.Shifted(x, c.clock, c.by)
		if e != c.e || e != api.OK && !same(y, api.Net{}) || e == api.OK && !sight.Valid(y) {
			t.Error(c, y, e)
		}
	}
}

func TestShiftedBounds(t *testing.T) {
	for _, x := range consistentNets(t, 120) {
		for clock := 1; clock < len(x.Rates); clock++ {
			y, e := sight.Shifted(x, clock, 1234)
			if e != api.OK {
				t.Fatal(x, clock, e)
			}
			for _, at := range timesOf(x) {
				checkShifted(t, x, y, clock, at)
			}
		}
	}
}

func checkShifted(t *testing.T, x, y api.Net, shifted, at int) {
	t.Helper()
	for clock := range x.Rates {
		want, wantError := sight.Error(x, clock, at)
		if clock == shifted && wantError == api.OK {
			want.Lo += 1234
			want.Hi += 1234
		}
		if s, e := sight.Error(y, clock, at); s != want || e != wantError {
			t.Fatal(x, shifted, clock, at, s, e)
		}
	}
}

func TestLast(t *testing.T) {
	x := api.Net{Rates: []int{0, 1, 2, 3}, Sights: []api.Sight{{At: 70, A: 1, B: 2}, {At: 500, A: 0, B: 2}, {At: 60, A: 2, B: 1}, {At: 0, A: 0, B: 2}}}
	for clock, want := range []int{500, 70, 500} {
		if at, e := sight.Last(x, clock); at != want || e != api.OK {
			t.Error(clock, at, e)
		}
	}
	if at, e := sight.Last(x, 3); at != 0 || e != api.ErrNone {
		t.Error("a clock without sights", at, e)
	}
	for _, clock := range []int{-1, 4, math.MinInt, math.MaxInt} {
		if at, e := sight.Last(x, clock); at != 0 || e != api.ErrName {
			t.Error(clock, at, e)
		}
	}
	if at, e := sight.Last(example(true), 0); at != 1000000 || e != api.OK {
		t.Error("the sky in a net that contradicts itself", at, e)
	}
	if at, e := sight.Last(api.Net{Rates: []int{0, 0}, Sights: []api.Sight{{At: 0, A: 1}}}, 1); at != 0 || e != api.OK {
		t.Error("a sight at 0", at, e)
	}
	if at, e := sight.Last(api.Net{Rates: []int{0, 0}}, 0); at != 0 || e != api.ErrNone {
		t.Error("no sights", at, e)
	}
}

func TestJoined(t *testing.T) {
	rates := make([]int, api.MaxClocks)
	between := func(pairs ...[2]int) (l []api.Sight) {
		for i, p := range pairs {
			l = append(l, api.Sight{At: 1000 * i, A: p[0], B: p[1]})
		}
		return l
	}
	for _, c := range []struct {
		sights []api.Sight
		want   []int
	}{
		{nil, nil},
		{between([2]int{1, 0}), []int{1}},
		{between([2]int{0, 7}), []int{7}},
		{between([2]int{1, 2}, [2]int{3, 4}), nil},
		{between([2]int{5, 3}, [2]int{0, 5}, [2]int{1, 2}), []int{3, 5}},
		{between([2]int{7, 6}, [2]int{6, 5}, [2]int{5, 4}, [2]int{4, 3}, [2]int{3, 2}, [2]int{2, 1}, [2]int{1, 0}), []int{1, 2, 3, 4, 5, 6, 7}},
		{between([2]int{0, 1}, [2]int{1, 2}, [2]int{2, 3}, [2]int{3, 4}, [2]int{4, 5}, [2]int{5, 6}, [2]int{6, 7}), []int{1, 2, 3, 4, 5, 6, 7}},
		{append(between([2]int{1, 0}, [2]int{2, 3}), api.Sight{A: 1, Lo: 5, Hi: 5}), []int{1}}, // contradicts itself
	} {
		if l, e := sight.Joined(api.Net{Rates: rates, Sights: c.sights}); !slices.Equal(l, c.want) || e != api.OK {
			t.Error(c, l, e)
		}
	}
}

// A clock is joined exactly if it is bounded.
func TestJoinedIsBounded(t *testing.T) {
	for _, x := range consistentNets(t, 200) {
		var want []int
		for clock := 1; clock < len(x.Rates); clock++ {
			if _, e := sight.Error(x, clock, 12345); e == api.OK {
				want = append(want, clock)
			}
		}
		if l, e := sight.Joined(x); !slices.Equal(l, want) || e != api.OK {
			t.Error(x, l, e)
		}
	}
}
