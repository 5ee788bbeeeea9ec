package night_test

import (
	"fmt"
	"math"
	"slices"
	"strconv"
	"testing"

	"noongun/api"
	"noongun/night"
)

func TestBest(t *testing.T) {
	of := func(worths ...int) []api.Chance { // each follows the one before it
		var l []api.Chance
		for i, worth := range worths {
			l = append(l, api.Chance{Name: "s" + strconv.Itoa(i), From: 10 * i, To: 10*i + 10, Worth: worth})
		}
		return l
	}
	pair := func(first, second, both int) []api.Chance { // the first two follow each other, and the last one is in their way
		return []api.Chance{{Name: "a", From: 0, To: 10, Worth: first}, {Name: "b", From: 10, To: 20, Worth: second}, {Name: "c", From: 10, To: 30, Worth: both}}
	}
	wide := []api.Chance{{Name: "a", From: 0, To: 40, Worth: 7}, {Name: "b", From: 0, To: 10, Worth: 3}, {Name: "c", From: 10, To: 20, Worth: 4}}
	all := []api.Span{{Lo: 0, Hi: api.Day}}
	for _, c := range []struct {
		l      []api.Chance
		clouds []api.Span
		per    int
		want   []int
		most   int
	}{
		{example(), nil, 0, []int{1, 2}, 2}, {example(), nil, 1, []int{1}, 1}, {example(), []api.Span{{Lo: 120, Hi: 120}}, 0, []int{0, 2}, 2}, {example(), []api.Span{{Lo: 120, Hi: 120}}, 1, []int{2}, 1},
		{example(), []api.Span{{Lo: 95, Hi: 95}}, 0, []int{2}, 1}, {example(), []api.Span{{Lo: 100, Hi: 100}}, 0, []int{0, 2}, 2}, {example(), all, 0, nil, 0}, {nil, nil, 0, nil, 0}, {nil, all, 10000, nil, 0},
		{of(1, 1, 1), nil, 10000, []int{0, 1, 2}, 3}, {of(0, 0, 0), nil, 0, nil, 3}, {of(0), nil, 0, nil, 1}, {of(0, 2, 0, 3, 0), nil, 0, []int{1, 3}, 5}, // Worth 0 is in no best list
		{pair(1, 2, 2), nil, 0, []int{0, 1}, 2}, {pair(1, 2, 3), nil, 0, []int{0, 2}, 2}, {pair(0, 2, 2), nil, 0, []int{1}, 2}, // the first one of those with as many chances
		{wide, nil, 0, []int{0}, 2}, {wide[1:], nil, 0, []int{0, 1}, 2}, // the fewest of those with the same worth
		{[]api.Chance{{Name: "a", To: 5, Worth: 4}, {Name: "b", To: 5, Worth: 4}}, nil, 0, []int{0}, 1}, {[]api.Chance{{Name: "a", To: 5, Worth: 4}, {Name: "b", To: 5, Worth: 5}}, nil, 0, []int{1}, 1},
		{of(1, 1, 1), []api.Span{{Lo: 10, Hi: 10}}, 0, []int{0, 2}, 2}, {of(1, 1, 1), []api.Span{{Lo: 9, Hi: 10}}, 0, []int{2}, 1}, {of(1, 1, 1), []api.Span{{Lo: 30, Hi: 99}, {Lo: 0, Hi: 3}}, 0, []int{1, 2}, 2},
	} {
		if got, e := night.Best(c.l, c.clouds, c.per); !slices.Equal(got, c.want) || e != api.OK {
			t.Error("Best", c, got, e)
		}
		if !night.IsBest(c.l, c.clouds, c.per, c.want) || night.IsBest(c.l, c.clouds, c.per, append(slices.Clone(c.want), 0)) || len(c.want) > 0 && night.IsBest(c.l, c.clouds, c.per, c.want[1:]) {
			t.Error("IsBest", c)
		}
		if got, e := night.Most(c.l, c.clouds, c.per); got != c.most || e != api.OK {
			t.Error("Most", c, got, e)
		}
	}
}

func TestWith(t *testing.T) {
	l := []api.Chance{{Name: "a", From: 0, To: 10, Worth: 5}, {Name: "b", From: 5, To: 15, Worth: 0}, {Name: "c", From: 10, To: 20, Worth: 5}, {Name: "d", From: 15, To: 20, Worth: 5}, {Name: "e", From: 20, To: 30, Tilt: 100, Worth: 0}}
	cloud := []api.Span{{Lo: 16, Hi: 16}}
	for _, c := range []struct {
		clouds []api.Span
		per, i int
		want   []int
		e      api.Errno
	}{
		{nil, 0, 0, []int{0, 2}, api.OK}, {nil, 0, 1, []int{1, 3}, api.OK}, {nil, 0, 2, []int{0, 2}, api.OK}, {nil, 0, 3, []int{0, 3}, api.OK}, {nil, 0, 4, []int{0, 2, 4}, api.OK}, {nil, 1, 4, []int{4}, api.OK}, {nil, 10000, 3, []int{0, 3}, api.OK},
		{cloud, 0, 0, []int{0}, api.OK}, {cloud, 0, 1, []int{1}, api.OK}, {cloud, 0, 2, nil, api.ErrNone}, {cloud, 0, 3, nil, api.ErrNone}, {cloud, 0, 4, []int{0, 4}, api.OK},
		{nil, 0, 5, nil, api.ErrName}, {nil, 0, -1, nil, api.ErrName}, {nil, 0, math.MaxInt, nil, api.ErrName}, {nil, 0, math.MinInt, nil, api.ErrName}, {[]api.Span{{Lo: 0, Hi: api.Day}}, 0, 5, nil, api.ErrName}, {[]api.Span{{Lo: 0, Hi: api.Day}}, 0, 4, nil, api.ErrNone},
	} {
		if got, e := night.With(l, c.clouds, c.per, c.i); !slices.Equal(got, c.want) || e != c.e {
			t.Error(c, got, e)
		}
	}
	for _, i := range []int{0, -1, 1} {
		if got, e := night.With(nil, nil, 0, i); len(got) != 0 || e != api.ErrName {
			t.Error("no chances", i, got, e)
		}
	}
}

// All functions for lists against trying all lists: P8.2 and P8.3.
func TestAllLists(t *testing.T) {
	r := random()
	for range 400 {
		l, clouds, per := anyChances(r, r.IntN(10)), anyClouds(r, r.IntN(4)), r.IntN(5)
		for i := range l { // where there is more of the same, the number of chances and their order decide
			l[i].Worth %= 1 + r.IntN(5)
		}
		want, _ := bestOf(l, clouds, per, func([]int) bool { return true })
		best, e := night.Best(l, clouds, per)
		if !slices.Equal(best, want) || e != api.OK {
			t.Fatal("Best", l, clouds, per, best, e)
		}
		most := 0
		for _, list := range subsets(len(l)) {
			if night.IsBest(l, clouds, per, list) != slices.Equal(list, want) {
				t.Fatal("IsBest", l, clouds, per, list)
			}
			if isRight(l, clouds, per, list) {
				most = max(most, len(list))
			}
		}
		if n, e := night.Most(l, clouds, per); n != most || e != api.OK {
			t.Fatal("Most", l, clouds, per, n, e)
		}
		for i := range l {
			want, there := bestOf(l, clouds, per, func(list []int) bool { return slices.Contains(list, i) })
			wantError := api.ErrNone
			if there {
				wantError = api.OK
			}
			if with, e := night.With(l, clouds, per, i); !slices.Equal(with, want) || e != wantError || worthOf(l, with) > worthOf(l, best) {
				t.Fatal("With", l, clouds, per, i, with, e)
			}
		}
	}
}

// P8.2: a further chance or fewer clouds make no less possible.
func TestMoreIsNoWorse(t *testing.T) {
	r := random()
	for range 500 {
		l, clouds, per := anyChances(r, 1+r.IntN(20)), anyClouds(r, r.IntN(5)), r.IntN(5)
		worth, most := possible(t, l, clouds, per)
		for i := range l {
			if w, m := possible(t, slices.Delete(slices.Clone(l), i, i+1), clouds, per); w > worth || m > most {
				t.Fatal("a further chance", l, clouds, per, i)
			}
		}
		for i := range clouds {
			if w, m := possible(t, l, slices.Delete(slices.Clone(clouds), i, i+1), per); w < worth || m < most {
				t.Fatal("fewer clouds", l, clouds, per, i)
			}
		}
	}
}

// possible returns the worth of the best list, and the greatest number of chances of a right one.
func possible(t *testing.T, l []api.Chance, clouds []api.Span, per int) (worth, most int) {
	t.Helper()
	best, e := night.Best(l, clouds, per)
	if e != api.OK || !night.Right(l, clouds, per, best) {
		t.Fatal(l, clouds, per, best, e)
	}
	most, e = night.Most(l, clouds, per)
	if e != api.OK || most < len(best) {
		t.Fatal(l, clouds, per, most, e)
	}
	return worthOf(l, best), most
}

// As many chances as may be, all of them after each other: over a million right lists.
func TestTwentyChances(t *testing.T) {
	l := twenty()
	if got, e := night.Best(l, nil, 0); len(got) != 20 || e != api.OK {
		t.Error(got, e)
	}
	if n, e := night.Most(l, nil, 0); n != 20 || e != api.OK {
		t.Error(n, e)
	}
	for _, per := range []int{0, 1, 3, 10, 10000} {
		want, count := []int(nil), 0
		var try func(list []int)
		try = func(list []int) {
			count++
			if isBetter(l, list, want) {
				want = slices.Clone(list)
			}
			from := 0
			if len(list) > 0 {
				from = list[len(list)-1] + 1
			}
			for i := from; i < len(l); i++ {
				if len(list) == 0 || follows(l[list[len(list)-1]], l[i], per) {
					try(append(slices.Clone(list), i))
				}
			}
		}
		try(nil)
		if got, e := night.Best(l, nil, per); !slices.Equal(got, want) || e != api.OK {
			t.Error(per, count, got, e, want)
		}
		if per == 0 && count != 1<<20 {
			t.Error("right lists", count)
		}
	}
}

// The greatest numbers that may be.
func TestGreatNumbers(t *testing.T) {
	var l []api.Chance
	for i := range 20 {
		l = append(l, api.Chance{Name: fmt.Sprintf("s%015d", i), From: api.Day - 20 + i, To: api.Day - 19 + i, Tilt: 90000, Worth: 1000000})
	}
	best, e := night.Best(l, []api.Span{{Lo: 0, Hi: api.Day - 21}, {Lo: api.Day, Hi: api.Day}}, 10000)
	if len(best) != 20 || e != api.OK {
		t.Error(best, e)
	}
	l[0].Tilt = -90000
	if best, e := night.Best(l, nil, 10000); len(best) != 19 || best[0] != 1 || e != api.OK {
		t.Error(best, e)
	}
	if with, e := night.With(l, nil, 10000, 0); !slices.Equal(with, []int{0}) || e != api.OK {
		t.Error(with, e)
	}
}
