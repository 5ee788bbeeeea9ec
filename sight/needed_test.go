package sight_test

import (
	"math"
	"slices"
	"testing"

	"noongun/api"
	"noongun/sight"
)

func checkImplied(t *testing.T, x api.Net, want ...bool) {
	t.Helper()
	for i := range x.Sights {
		if m, e := sight.Implied(x, i); m != want[i] || e != api.OK {
			t.Error("Implied", x, i, m, e)
		}
	}
}

func checkNeeded(t *testing.T, x api.Net, want ...int) {
	t.Helper()
	if l, e := sight.Needed(x); !slices.Equal(l, want) || e != api.OK {
		t.Error("Needed", x, l, e, want)
	}
}

func TestImplied(t *testing.T) {
	x := api.Net{Rates: []int{0, 1000000, 0}, Sights: []api.Sight{{At: 5000, A: 1, B: 0, Lo: 10, Hi: 20}}}
	checkImplied(t, x, false)
	x.Sights = append(x.Sights, api.Sight{At: 7000, A: 0, B: 1, Lo: -22, Hi: -8})
	checkImplied(t, x, false, true)
	x.Sights[1].Hi = -9
	checkImplied(t, x, false, false)
	x.Sights[1].Hi, x.Sights[1].Lo = -8, -21
	checkImplied(t, x, false, false)
	x.Sights[1] = x.Sights[0]
	checkImplied(t, x, true, true)
	x.Sights[1] = api.Sight{At: 5000, A: 1, B: 2, Lo: -api.Day, Hi: api.Day}
	checkImplied(t, x, false, false) // however wide, it bounds what was not bounded
	x.Sights = append(x.Sights, api.Sight{At: 9000, A: 0, B: 2, Lo: -api.Day, Hi: api.Day})
	checkImplied(t, x, false, false, false) // each way without one is a carry wider
}

func TestImpliedErrors(t *testing.T) {
	for _, x := range []api.Net{example(false), example(true), {Rates: []int{0, 0}}} {
		for _, i := range []int{-1, len(x.Sights), math.MinInt, math.MaxInt} {
			if m, e := sight.Implied(x, i); m || e != api.ErrName {
				t.Error(x, i, m, e)
			}
		}
	}
	for i := range 2 {
		if m, e := sight.Implied(example(true), i); m || e != api.ErrState {
			t.Error("a contradiction that is none without the sight", i, m, e)
		}
	}
}

func TestNeeded(t *testing.T) {
	checkNeeded(t, api.Net{Rates: []int{0, 0}})
	checkNeeded(t, example(false), 0)
	twice := example(false)
	twice.Sights = append(twice.Sights, twice.Sights[0], twice.Sights[0])
	checkNeeded(t, twice, 0) // the last ones go first
	// The middle one is implied by the two others together, each of which says more.
	x := api.Net{Rates: []int{0, 1000000}, Sights: []api.Sight{{At: 0, A: 1, Lo: 0, Hi: 20}, {At: 1000, A: 1, Lo: -1, Hi: 10}, {At: 2000, A: 1, Lo: -9, Hi: 9}}}
	checkNeeded(t, x, 0, 2)
	if l, e := sight.Needed(example(true)); len(l) != 0 || e != api.ErrState {
		t.Error("a contradiction", l, e)
	}
	// A triangle: each side is implied by the two others, so the last one goes.
	y := api.Net{Rates: []int{0, 0, 0}, Sights: []api.Sight{{A: 1, B: 0, Lo: 1, Hi: 1}, {A: 2, B: 1, Lo: 1, Hi: 1}, {A: 2, B: 0, Lo: 2, Hi: 2}}}
	checkImplied(t, y, true, true, true)
	checkNeeded(t, y, 0, 1)
	if l, e := sight.Needed(full()); e != api.OK || !slices.Contains(l, 0) {
		t.Error("MaxSights", l, e)
	}
}

func TestImpliedAndNeededByTheLetter(t *testing.T) {
	left, taken := 0, 0
	for _, x := range nets(500) {
		consistent := gridOf(x, 0).consistent()
		var want []int
		rest := clone(x)
		for i := len(x.Sights) - 1; i >= 0; i-- {
			m, e := sight.Implied(x, i)
			if !consistent {
				if m || e != api.ErrState {
					t.Fatal("Implied", x, i, m, e)
				}
				continue
			}
			if e != api.OK || m != impliedBy(without(x, i), x.Sights[i]) {
				t.Fatal("Implied", x, i, m, e)
			}
			if impliedBy(without(rest, i), x.Sights[i]) {
				rest = without(rest, i)
				taken++
			} else {
				want = append([]int{i}, want...)
				left++
			}
		}
		if !consistent {
			if l, e := sight.Needed(x); len(l) != 0 || e != api.ErrState {
				t.Fatal("Needed", x, l, e)
			}
			continue
		}
		checkNeeded(t, x, want...)
	}
	if left < 300 || taken < 300 {
		t.Error("hardly tried", left, taken)
	}
}

func without(x api.Net, i int) api.Net {
	return api.Net{Rates: x.Rates, Sights: slices.Concat(x.Sights[:i], x.Sights[i+1:])}
}

func impliedBy(others api.Net, s api.Sight) bool {
	b, e := gridOf(others, s.At).between(s.A, s.B, s.At)
	return e == api.OK && within(b, api.Span{Lo: s.Lo, Hi: s.Hi})
}

func TestTight(t *testing.T) {
	x := api.Net{Rates: []int{0, 1000000, 0}, Sights: []api.Sight{
		{At: 0, A: 1, B: 0, Lo: -5, Hi: 20}, {At: 1000, A: 0, B: 1, Lo: -30, Hi: -10}, {At: 500, A: 1, B: 2, Lo: -api.Day, Hi: api.Day},
	}}
	want := clone(x)
	want.Sights[0].Lo = 9
	want.Sights[1].Lo = -21
	if y, e := sight.Tight(x); !same(y, want) || e != api.OK {
		t.Error(y, e)
	}
	if y, e := sight.Tight(api.Net{Rates: []int{0, 3}}); !same(y, api.Net{Rates: []int{0, 3}}) || e != api.OK {
		t.Error("no sights", y, e)
	}
	if y, e := sight.Tight(example(true)); !same(y, api.Net{}) || e != api.ErrState {
		t.Error("a contradiction", y, e)
	}
	// Two sights that leave just one number.
	z := api.Net{Rates: []int{0, 0}, Sights: []api.Sight{{A: 1, Lo: -api.Day, Hi: 7}, {At: 3, A: 1, Lo: 7, Hi: api.Day}}}
	if y, e := sight.Tight(z); e != api.OK || y.Sights[0].Lo != 7 || y.Sights[0].Hi != 7 || y.Sights[1].Lo != 7 || y.Sights[1].Hi != 7 {
		t.Error(y, e)
	}
}

func TestTightByTheLetter(t *testing.T) {
	tighter := 0
	for _, x := range consistentNets(t, 400) {
		want := clone(x)
		for i, s := range x.Sights {
			b, _ := gridOf(x, s.At).between(s.A, s.B, s.At)
			want.Sights[i].Lo, want.Sights[i].Hi = b.Lo, b.Hi
		}
		y, e := sight.Tight(x)
		if !same(y, want) || e != api.OK || !sight.Valid(y) {
			t.Fatal(x, y, e)
		}
		if again, e := sight.Tight(y); !same(again, y) || e != api.OK {
			t.Fatal("not its own Tight", y, again, e)
		}
		if !same(x, y) {
			tighter++
		}
	}
	if tighter < 50 {
		t.Error("hardly tried", tighter)
	}
}

// Tight's net, and that of the Needed sights alone, have the same bounds.
func TestTheSameBounds(t *testing.T) {
	for _, x := range consistentNets(t, 200) {
		times := timesOf(x)
		want := knownOf(x, times)
		y, _ := sight.Tight(x)
		if !slices.Equal(knownOf(y, times), want) {
			t.Fatal("Tight", x, y)
		}
		l, _ := sight.Needed(x)
		z := api.Net{Rates: x.Rates}
		for _, i := range l {
			z.Sights = append(z.Sights, x.Sights[i])
		}
		if !slices.Equal(knownOf(z, times), want) {
			t.Fatal("Needed", x, l)
		}
	}
}
