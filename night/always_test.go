package night_test

import (
	"fmt"
	"math"
	"slices"
	"strings"
	"testing"

	"noongun/api"
	"noongun/night"
)

// outcome is what a call returned, and whether with an error all else was zero.
type outcome struct {
	text string
	zero bool
}

func with[T comparable](result T, e api.Errno) outcome {
	var none T
	return outcome{fmt.Sprint(result, e), e == api.OK || result == none}
}

func listed[T any](l []T, e api.Errno) outcome {
	return outcome{fmt.Sprint(l, e), e == api.OK || len(l) == 0}
}

func alone[T any](result T) outcome {
	return outcome{fmt.Sprint(result), true}
}

// arguments are those of all calls, but for Parse.
type arguments struct {
	l                    []api.Chance
	clouds               []api.Span
	list, can, rota      []int
	differences          []api.Sight
	a, b                 api.Chance
	per, i, observers, m int
}

func outcomes(x arguments) []outcome {
	return []outcome{
		alone(night.Valid(x.l)), listed(night.Clear(x.l, x.clouds)), with(night.Turn(x.a, x.b, x.per)), with(night.Follows(x.a, x.b, x.per)), alone(night.Right(x.l, x.clouds, x.per, x.list)), with(night.Worth(x.l, x.list)),
		listed(night.Best(x.l, x.clouds, x.per)), alone(night.IsBest(x.l, x.clouds, x.per, x.list)), with(night.Most(x.l, x.clouds, x.per)), listed(night.With(x.l, x.clouds, x.per, x.i)), listed(night.Clashes(x.l, x.per)), with(night.Idle(x.l, x.per, x.list)),
		listed(night.Habits(x.observers, x.differences)), listed(night.Circle(x.observers, x.differences)), listed(night.Rota(x.can, x.observers, x.m)), alone(night.IsRota(x.can, x.observers, x.m, x.rota)), with(night.Rotas(x.can, x.observers, x.m)), alone(night.Format(x.l)),
	}
}

func checkTwice(t *testing.T, x arguments) {
	t.Helper()
	first, second := outcomes(x), outcomes(x)
	for i := range first {
		if !first[i].zero {
			t.Fatal("a result beside an error", i, x, first[i].text)
		}
		if first[i] != second[i] {
			t.Fatal("not the same again", i, x, first[i].text, second[i].text)
		}
	}
}

// P8.1: no call panics, each ends, each does the same again, and errors come alone.
func TestAnyArguments(t *testing.T) {
	r := random()
	for range 5000 {
		right := func(n int) int { // mostly, or else hardly any argument would be valid
			if r.IntN(20) == 0 {
				return extremes[r.IntN(len(extremes))]
			}
			return n
		}
		x := arguments{l: anyChances(r, r.IntN(21)), clouds: anyClouds(r, r.IntN(5)), per: right(r.IntN(5)), i: right(r.IntN(5)), observers: right(1 + r.IntN(8)), m: right(r.IntN(13))}
		x.a, x.b = api.Chance{Name: "a", From: right(0), To: right(10), Tilt: right(5), Worth: right(3)}, api.Chance{Name: "b", From: right(20), To: right(30), Tilt: right(-5), Worth: right(3)}
		for range r.IntN(5) {
			x.list = append(x.list, right(r.IntN(5)))
			x.rota = append(x.rota, right(r.IntN(8)))
		}
		for range r.IntN(14) {
			x.can = append(x.can, right(r.IntN(256)))
			lo := right(r.IntN(5))
			x.differences = append(x.differences, api.Sight{At: right(0), A: right(r.IntN(4)), B: right(4 + r.IntN(4)), Lo: lo, Hi: right(lo)})
		}
		if len(x.l) > 0 && r.IntN(4) == 0 {
			x.l[len(x.l)-1].To = right(100)
		}
		checkTwice(t, x)
	}
}

func TestExtremeArguments(t *testing.T) {
	for _, n := range extremes {
		for _, m := range extremes {
			c, d := api.Chance{Name: "a", From: n, To: m, Tilt: n, Worth: m}, api.Chance{Name: "b", From: m, To: n, Tilt: m, Worth: n}
			checkTwice(t, arguments{l: []api.Chance{c, d}, clouds: []api.Span{{Lo: n, Hi: m}}, list: []int{n, m}, can: []int{n, m}, rota: []int{m, n}, differences: []api.Sight{{At: n, A: n, B: m, Lo: m, Hi: m}}, a: c, b: d, per: n, i: m, observers: n, m: m})
			checkTwice(t, arguments{l: example(), clouds: []api.Span{{Lo: n, Hi: m}}, list: []int{1, m}, can: []int{255, n}, rota: []int{0, m}, differences: []api.Sight{{A: 1, Lo: n, Hi: n}, {A: 1, Lo: m, Hi: m}}, a: example()[0], b: c, per: m, i: n, observers: 8, m: m})
		}
	}
	long := make([]int, 1000000)
	x := arguments{l: make([]api.Chance, 1000000), clouds: make([]api.Span, 1000000), list: long, can: long, rota: long, differences: make([]api.Sight, 1000000), observers: 8, m: 12}
	checkTwice(t, x)
	x.l, x.clouds = twenty(), nil
	checkTwice(t, x)
}

func TestAnyTexts(t *testing.T) {
	for _, s := range []string{"", "\x00", "\xff\xfe", exampleText, "a 1 2 3 4\n\xff", strings.Repeat("9", api.MaxText+1), strings.Repeat("\n", api.MaxText), strings.Repeat(" ", api.MaxText), "a" + strings.Repeat(" 1", 30000)} {
		l, line, e := night.Parse(s)
		m, again, f := night.Parse(s)
		if !slices.Equal(l, m) || line != again || e != f || e != api.OK && len(l) != 0 || e != api.ErrSyntax && line != 0 {
			t.Errorf("%.50q: %v, %d, %d", s, l, line, e)
		}
	}
}

// A nil slice and an empty one are the same.
func TestNilAndEmpty(t *testing.T) {
	for _, i := range []int{-1, 0, 1, 8, 12, 13} {
		x := arguments{a: example()[0], b: example()[1], per: i, i: i, observers: i, m: i}
		y := x
		y.l, y.clouds, y.list, y.can, y.rota, y.differences = []api.Chance{}, []api.Span{}, []int{}, []int{}, []int{}, []api.Sight{}
		if !slices.Equal(outcomes(x), outcomes(y)) {
			t.Error(i, outcomes(x), outcomes(y))
		}
		x.l, y.l = example(), example()
		if !slices.Equal(outcomes(x), outcomes(y)) {
			t.Error(i, outcomes(x), outcomes(y))
		}
	}
}

// roomy is a slice with the same items and room behind its end, and the whole of it.
func roomy[T any](l []T, more T) (part, all []T) {
	all = append(slices.Clone(l), more, more, more)
	return all[:len(l)], all
}

func TestArgumentsAreNotChanged(t *testing.T) {
	r := random()
	for range 500 {
		var x arguments
		l, clouds, list, can, rota, differences := []api.Chance(nil), []api.Span(nil), []int(nil), []int(nil), []int(nil), []api.Sight(nil)
		x.l, l = roomy(anyChances(r, r.IntN(20)), api.Chance{Name: "more", From: 900, To: 901, Worth: 9})
		x.clouds, clouds = roomy(anyClouds(r, r.IntN(4)), api.Span{Lo: 77, Hi: 78})
		x.list, list = roomy(subsets(4)[r.IntN(16)], 77)
		x.can, can = roomy(anyNights(r, r.IntN(13), 5), 77)
		x.rota, rota = roomy([]int{0, 1, 2}, 77)
		x.differences, differences = roomy(anyDifferences(r, 5), difference(4, 1, 77))
		before := fmt.Sprint(l, clouds, list, can, rota, differences)
		x.a, x.b, x.observers = example()[0], example()[1], 5
		for n := range 5 {
			x.per, x.i, x.m = n, r.IntN(20), 3*n
			outcomes(x)
		}
		if after := fmt.Sprint(l, clouds, list, can, rota, differences); after != before {
			t.Fatal(before, after)
		}
	}
}

// scribble writes over all that a list has, also behind its end.
func scribble[T any](l []T, with T) {
	for i := range l[:cap(l)] {
		l[:cap(l)][i] = with
	}
}

// checkNew calls twice: the results share nothing, and nothing is kept from the first one.
func checkNew[T comparable](t *testing.T, with T, call func() ([]T, api.Errno)) {
	t.Helper()
	first, _ := call()
	want := slices.Clone(first)
	scribble(first, with)
	if again, e := call(); len(want) < 1 || !slices.Equal(again, want) || e != api.OK {
		t.Error(again, want, e)
	}
}

func TestResultsAreNewMemory(t *testing.T) {
	l, can, joined, round := example(), []int{7, 7, 7}, []api.Sight{difference(1, 0, 3), difference(2, 1, 3)}, []api.Sight{difference(1, 0, 3), difference(1, 0, 4)}
	for _, call := range []func() ([]int, api.Errno){
		func() ([]int, api.Errno) { return night.Clear(l, nil) }, func() ([]int, api.Errno) { return night.Best(l, nil, 0) }, func() ([]int, api.Errno) { return night.With(l, nil, 0, 0) }, func() ([]int, api.Errno) { return night.With(l, nil, 1, 2) },
		func() ([]int, api.Errno) { return night.Habits(3, joined) }, func() ([]int, api.Errno) { return night.Circle(2, round) }, func() ([]int, api.Errno) { return night.Rota(can, 3, 2) },
	} {
		checkNew(t, math.MinInt, call)
	}
	checkNew(t, [2]int{-1, -1}, func() ([][2]int, api.Errno) { return night.Clashes(l, 1) })
	checkNew(t, api.Chance{}, func() ([]api.Chance, api.Errno) {
		l, _, e := night.Parse(exampleText)
		return l, e
	})
	if !slices.Equal(l, example()) || !slices.Equal(can, []int{7, 7, 7}) || !slices.Equal(joined, []api.Sight{difference(1, 0, 3), difference(2, 1, 3)}) || !slices.Equal(round, []api.Sight{difference(1, 0, 3), difference(1, 0, 4)}) {
		t.Error("an argument is shared", l, can, joined, round)
	}
}
