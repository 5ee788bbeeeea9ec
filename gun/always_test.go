package gun_test

import (
	"fmt"
	"math"
	"slices"
	"strings"
	"testing"

	"noongun/api"
	"noongun/gun"
)

// outcome is what a call returned, and whether with an error all else was zero.
type outcome struct {
	text string
	zero bool
}

func with[T comparable](result T, e api.Errno) outcome {
	var none T
	return outcome{fmt.Sprint(result, e), e == api.OK || result == none}
}

func both(m, n int, e api.Errno) outcome {
	return outcome{fmt.Sprint(m, n, e), e == api.OK || m == 0 && n == 0}
}

func listed[T any](l []T, e api.Errno) outcome {
	return outcome{fmt.Sprint(l, e), e == api.OK || len(l) == 0}
}

func alone[T any](result T) outcome {
	return outcome{fmt.Sprint(result), true}
}

// outcomes are those of all calls, but for Parse.
func outcomes(a api.Air, l []api.Shot, places []api.Point, p, q api.Point, n int) []outcome {
	return []outcome{
		alone(gun.ValidAir(a)), with(gun.SpeedAt(n)), with(gun.Root(n)), both(gun.Distance(p, q)), with(gun.Lag(a, p, q)), with(gun.Heard(a, p, q, n)), with(gun.Corrected(a, p, q, n)),
		alone(gun.ValidShots(l)), with(gun.Suits(a, l, p)), listed(gun.Where(a, l, p, q, n)), with(gun.Excluded(a, l, p, q)), with(gun.First(a, places, p)), both(gun.Ring(a, p, n)),
		listed(gun.Table(a, p, places)), with(gun.Alike(a, p, q, api.Point{X: n})), listed(gun.Mirrored(l)), alone(gun.Format(l)),
	}
}

func checkTwice(t *testing.T, a api.Air, l []api.Shot, places []api.Point, p, q api.Point, n int) {
	t.Helper()
	first, second := outcomes(a, l, places, p, q, n), outcomes(a, l, places, p, q, n)
	for i := range first {
		if !first[i].zero {
			t.Fatal("a result beside an error", i, a, p, q, n, first[i].text)
		}
		if first[i] != second[i] {
			t.Fatal("not the same again", i, a, p, q, n, first[i].text, second[i].text)
		}
	}
}

// P5.1: no call panics, each ends, each does the same again, and errors come alone.
func TestAnyArguments(t *testing.T) {
	r := random()
	for range 10000 {
		right := func(n int) int { // mostly, or else hardly any argument would be valid
			if r.IntN(16) == 0 {
				return extremes[r.IntN(len(extremes))]
			}
			return n
		}
		place := func() api.Point {
			p := anyPlace(r, 50)
			return api.Point{X: right(p.X), Y: right(p.Y)}
		}
		x := anyAir(r)
		a := api.Air{Speed: right(x.Speed), Wind: right(x.Wind)}
		var l []api.Shot
		var places []api.Point
		for range r.IntN(5) {
			l = append(l, api.Shot{Gun: place(), Lag: api.Span{Lo: right(0), Hi: right(9)}})
			places = append(places, place())
		}
		checkTwice(t, a, l, places, place(), place(), right(1+r.IntN(10)))
	}
}

func TestExtremeArguments(t *testing.T) {
	for _, n := range extremes {
		for _, m := range extremes {
			p, q := api.Point{X: n, Y: m}, api.Point{X: m, Y: m}
			l, places := []api.Shot{{Gun: p, Lag: api.Span{Lo: n, Hi: m}}, {Lag: api.Span{Lo: m, Hi: n}}}, []api.Point{p, q}
			checkTwice(t, api.Air{Speed: n, Wind: m}, l, places, p, q, n)
			checkTwice(t, still(), l, places, p, q, m)
			checkTwice(t, still(), []api.Shot{{Lag: api.Span{Lo: n, Hi: m}}}, places[1:], q, p, n)
			checkTwice(t, api.Air{Speed: 300000, Wind: 50000}, shots(), nil, api.Point{X: -5, Y: -5}, api.Point{X: n, Y: m}, m)
		}
	}
	checkTwice(t, still(), make([]api.Shot, 1000000), make([]api.Point, 1000000), api.Point{}, api.Point{}, 1)
}

func TestAnyTexts(t *testing.T) {
	for _, s := range []string{"", "\x00", "\xff\xfe", exampleText, "0 0 0 0\n\xff", strings.Repeat("9", api.MaxText+1), strings.Repeat("\n", api.MaxText), strings.Repeat(" ", api.MaxText)} {
		l, line, e := gun.Parse(s)
		m, again, f := gun.Parse(s)
		if !slices.Equal(l, m) || line != again || e != f || e != api.OK && len(l) != 0 || e != api.ErrSyntax && line != 0 {
			t.Errorf("%.50q: %v, %d, %d", s, l, line, e)
		}
	}
}

// A nil slice and an empty one are the same.
func TestNilAndEmpty(t *testing.T) {
	for _, a := range []api.Air{still(), {}} {
		if !slices.Equal(outcomes(a, nil, nil, api.Point{}, api.Point{}, 5), outcomes(a, []api.Shot{}, []api.Point{}, api.Point{}, api.Point{}, 5)) {
			t.Error(a)
		}
	}
}

// roomy is a slice with the same items and room behind its end, and the whole of it.
func roomy[T any](l []T, more T) (part, all []T) {
	all = append(slices.Clone(l), more, more)
	return all[:len(l)], all
}

func TestArgumentsAreNotChanged(t *testing.T) {
	r := random()
	for range 500 {
		a, p := anyAir(r), anyPlace(r, 30)
		l, all := roomy(anyShots(r, a, p, 30), api.Shot{Lag: api.Span{Lo: 7, Hi: 9}})
		places, points := roomy([]api.Point{p, anyPlace(r, 30)}, api.Point{X: 9})
		before := fmt.Sprint(all, points)
		for _, n := range []int{0, 1, 7, -1, 50000000} {
			outcomes(a, l, places, api.Point{X: -30, Y: -30}, api.Point{X: 30, Y: 30}, n)
		}
		if after := fmt.Sprint(all, points); after != before {
			t.Fatal(before, after)
		}
	}
}

// scribble writes over all that a list has, also behind its end.
func scribble[T any](l []T, with T) {
	for i := range l[:cap(l)] {
		l[:cap(l)][i] = with
	}
}

// checkNew calls twice: the results share nothing, and nothing is kept from the first one.
func checkNew[T comparable](t *testing.T, with T, call func() ([]T, api.Errno)) {
	t.Helper()
	first, _ := call()
	want := slices.Clone(first)
	scribble(first, with)
	if again, e := call(); len(want) < 2 || !slices.Equal(again, want) || e != api.OK {
		t.Error(again, want, e)
	}
}

func TestResultsAreNewMemory(t *testing.T) {
	l, places := shots(), slices.Clone(ends)
	checkNew(t, api.Shot{Gun: api.Point{X: math.MinInt}}, func() ([]api.Shot, api.Errno) { return gun.Mirrored(l) })
	checkNew(t, api.Shot{Gun: api.Point{X: math.MinInt}}, func() ([]api.Shot, api.Errno) {
		read, _, e := gun.Parse(exampleText)
		return read, e
	})
	checkNew(t, api.Span{Lo: math.MinInt}, func() ([]api.Span, api.Errno) { return gun.Table(still(), api.Point{}, places) })
	checkNew(t, api.Point{X: math.MinInt}, func() ([]api.Point, api.Errno) {
		return gun.Where(still(), l, api.Point{X: -3400, Y: -3400}, api.Point{X: 3400, Y: 3400}, 100)
	})
	if !slices.Equal(l, shots()) || !slices.Equal(places, ends) {
		t.Error("an argument is shared", l, places)
	}
}
