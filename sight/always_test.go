package sight_test

import (
	"fmt"
	"math"
	"slices"
	"strings"
	"testing"

	"noongun/api"
	"noongun/sight"
)

// outcome is what a call returned, and whether with an error (or the false of a list) all else was zero.
type outcome struct {
	text string
	zero bool
}

func with[T comparable](result T, e api.Errno) outcome {
	var none T
	return outcome{fmt.Sprint(result, e), e == api.OK || result == none}
}

func listed(l []int, e api.Errno) outcome {
	return outcome{fmt.Sprint(l, e), e == api.OK || len(l) == 0}
}

func netted(x api.Net, e api.Errno) outcome {
	return outcome{fmt.Sprint(x, e), e == api.OK || len(x.Rates) == 0 && len(x.Sights) == 0}
}

func alone[T any](result T) outcome {
	return outcome{fmt.Sprint(result), true}
}

// outcomes are those of all calls that a net and some numbers are arguments of.
func outcomes(x api.Net, s api.Sight, l []int, a, b, at int) []outcome {
	return []outcome{
		alone(sight.Valid(x)), with(sight.Carry(x, a, b)), with(sight.Consistent(x)), listed(sight.Conflict(x)), alone(sight.Proves(x, l)),
		with(sight.Error(x, a, at)), with(sight.Between(x, a, b, at)), with(sight.Best(x, at)), with(sight.Width(x, a, at)),
		with(sight.Implied(x, a)), netted(sight.Tight(x)), listed(sight.Needed(x)),
		netted(sight.Added(x, s)), netted(sight.Without(x, a)), netted(sight.Shifted(x, a, b)), with(sight.Last(x, a)), listed(sight.Joined(x)), alone(sight.Format(x)),
	}
}

func checkTwice(t *testing.T, call func() []outcome, arguments ...any) {
	t.Helper()
	first, second := call(), call()
	for i := range first {
		if !first[i].zero {
			t.Fatal("a result beside an error", i, arguments, first[i].text)
		}
		if first[i] != second[i] {
			t.Fatal("not the same again", i, arguments, first[i].text, second[i].text)
		}
	}
}

// No call panics, each ends, each does the same again, and errors come alone.
func TestAnyArguments(t *testing.T) {
	small := []api.Net{{}, {Rates: []int{0, 0}}, example(false), example(true), {Rates: []int{0, 1}, Sights: []api.Sight{{At: -1, A: 9}}}}
	for _, x := range small {
		for _, a := range extremes {
			for _, b := range extremes {
				at := extremes[(slices.Index(extremes, a)*7+slices.Index(extremes, b))%len(extremes)]
				checkTwice(t, func() []outcome {
					return outcomes(x, api.Sight{At: at, A: a, B: b, Lo: b, Hi: a}, []int{a, b}, a, b, at)
				}, x, a, b, at)
			}
		}
	}
	for _, x := range append(badNets(), nets(60)...) {
		for _, n := range extremes {
			checkTwice(t, func() []outcome {
				return outcomes(x, api.Sight{At: n, A: n, B: 0, Lo: n, Hi: n}, []int{n}, n, 0, n)
			}, x, n)
		}
	}
}

func TestAnySights(t *testing.T) {
	for _, x := range []api.Net{example(false), {}} {
		for i := range 5 {
			for _, n := range extremes {
				for _, m := range extremes {
					parts := [5]int{7, 1, 0, 3, 4}
					parts[i] = n
					parts[(i+1)%5] = m
					s := api.Sight{At: parts[0], A: parts[1], B: parts[2], Lo: parts[3], Hi: parts[4]}
					valid := s.At >= 0 && s.At <= api.MaxTime && (s.A == 0 && s.B == 1 || s.A == 1 && s.B == 0) && s.Lo <= s.Hi && s.Lo >= -api.Day && s.Hi <= api.Day
					y, e := sight.Added(x, s)
					if want := valid && x.Rates != nil; want != (e == api.OK) || !want && e != api.ErrInvalid || want && y.Sights[1] != s {
						t.Fatal(x, s, y, e)
					}
				}
			}
		}
	}
}

func TestAnyTexts(t *testing.T) {
	for _, s := range []string{"", "\x00", "\xff\xfe", exampleText, "rates 0 1\n\xff", strings.Repeat("9", api.MaxText+1), strings.Repeat("\n", api.MaxText)} {
		x, line, e := sight.Parse(s)
		y, again, f := sight.Parse(s)
		if !same(x, y) || line != again || e != f || e != api.OK && !same(x, api.Net{}) || e != api.ErrSyntax && line != 0 {
			t.Errorf("%.50q: %v, %d, %d", s, x, line, e)
		}
	}
}

// A nil slice and an empty one are the same.
func TestNilAndEmpty(t *testing.T) {
	none, empty := api.Net{Rates: []int{0, 3}}, api.Net{Rates: []int{0, 3}, Sights: []api.Sight{}}
	for a := -1; a < 4; a++ {
		of := func(x api.Net, l []int) []outcome {
			return outcomes(x, api.Sight{At: 5, A: a, B: 1, Lo: 6, Hi: 7}, l, a, 1, 5)
		}
		if !slices.Equal(of(none, nil), of(empty, []int{})) || !slices.Equal(of(api.Net{}, nil), of(api.Net{Rates: []int{}, Sights: []api.Sight{}}, []int{})) {
			t.Error(a)
		}
	}
}

// roomy is x in slices that have room behind their ends, and the whole of both.
func roomy(x api.Net) (y api.Net, rates []int, sights []api.Sight) {
	rates = append(slices.Clone(x.Rates), 71, 72, 73)
	sights = append(slices.Clone(x.Sights), api.Sight{At: 74}, api.Sight{At: 75})
	return api.Net{Rates: rates[:len(x.Rates)], Sights: sights[:len(x.Sights)]}, rates, sights
}

func TestArgumentsAreNotChanged(t *testing.T) {
	for _, x := range append(nets(60), badNets()...) {
		y, rates, sights := roomy(x)
		list := []int{0, 3, 76, 77}
		ratesBefore, sightsBefore, listBefore := slices.Clone(rates), slices.Clone(sights), slices.Clone(list)
		for _, n := range []int{0, 1, 2, len(x.Sights) - 1} {
			outcomes(y, api.Sight{At: 500, A: 1, B: 0, Lo: 1, Hi: 2}, list[:2], n, n+1, 12345)
		}
		if !slices.Equal(rates, ratesBefore) || !slices.Equal(sights, sightsBefore) || !slices.Equal(list, listBefore) {
			t.Fatal(x, rates, sights, list)
		}
	}
}

// Whoever writes into a result, or behind its end, changes no argument.
func TestResultsAreNewMemory(t *testing.T) {
	for _, x := range append(nets(60), full(), api.Net{Rates: []int{0, 1}, Sights: make([]api.Sight, 0, 9)}) {
		y, rates, sights := roomy(x)
		ratesBefore, sightsBefore := slices.Clone(rates), slices.Clone(sights)
		var results []api.Net
		keep := func(z api.Net, e api.Errno) {
			if e == api.OK {
				results = append(results, z)
			}
		}
		keep(sight.Tight(y))
		keep(sight.Added(y, api.Sight{A: 1, Lo: -5, Hi: 5}))
		keep(sight.Without(y, 0))
		keep(sight.Without(y, len(y.Sights)-1))
		keep(sight.Shifted(y, 1, 0))
		keep(sight.Shifted(y, 1, 5))
		for _, z := range results {
			scribble(z)
		}
		if !slices.Equal(rates, ratesBefore) || !slices.Equal(sights, sightsBefore) {
			t.Fatal(x, rates, sights)
		}
	}
}

func scribble(x api.Net) {
	all, every := x.Rates[:cap(x.Rates)], x.Sights[:cap(x.Sights)]
	for i := range all {
		all[i] = math.MinInt
	}
	for i := range every {
		every[i] = api.Sight{At: math.MinInt}
	}
}

// Results of two calls share nothing either: nothing is kept from the first one.
func TestResultsAreNotKept(t *testing.T) {
	for _, x := range nets(60) {
		for _, call := range []func(api.Net) ([]int, api.Errno){sight.Conflict, sight.Needed, sight.Joined} {
			first, _ := call(x)
			want := slices.Clone(first)
			for i := range first[:cap(first)] {
				first[:cap(first)][i] = math.MinInt
			}
			if again, _ := call(x); !slices.Equal(again, want) {
				t.Fatal(x, again, want)
			}
		}
		s := sight.Format(x)
		y, _, _ := sight.Parse(s)
		scribble(y)
		if z, _, e := sight.Parse(s); !same(z, x) || e != api.OK {
			t.Fatal(x, z, e)
		}
	}
}
