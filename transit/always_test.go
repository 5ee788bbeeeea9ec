package transit_test

import (
	"fmt"
	"math"
	"slices"
	"strings"
	"testing"

	"noongun/api"
	"noongun/transit"
)

// outcome is what a call returned, and whether with an error all else was zero.
type outcome struct {
	text string
	e    api.Errno
	zero bool
}

func with[T comparable](result T, e api.Errno) outcome {
	var none T
	return outcome{fmt.Sprint(result, e), e, e == api.OK || result == none}
}

func listed[T any](l []T, e api.Errno) outcome {
	return outcome{fmt.Sprint(l, e), e, e == api.OK || len(l) == 0}
}

func taken(x api.Transit, e api.Errno) outcome {
	return outcome{fmt.Sprint(x, e), e, e == api.OK || x.Star == (api.Star{}) && len(x.Wires) == 0}
}

func alone[T any](result T) outcome {
	return outcome{fmt.Sprint(result), api.OK, true}
}

// outcomes are those of all calls, but for Parse.
func outcomes(x api.Tube, l []api.Transit, e, a api.Ratio, n int) []outcome {
	var one api.Transit
	var stars []api.Star
	if len(l) > 0 {
		one = l[0]
	}
	for _, t := range l {
		stars = append(stars, t.Star)
	}
	return append(calls(x, l, e, a),
		alone(transit.ValidStar(one.Star)), alone(transit.ValidTube(x)), alone(transit.Fits(x, one)), with(transit.Crossing(x, one)), with(transit.Folded(n)), with(transit.Difference(x, one)),
		taken(transit.Wired(x, one.Star, n)), listed(transit.Moved(l, n)), alone(transit.Format(stars)),
	)
}

func checkTwice(t *testing.T, x api.Tube, l []api.Transit, e, a api.Ratio, n int) {
	t.Helper()
	first, second := outcomes(x, l, e, a, n), outcomes(x, l, e, a, n)
	for i := range first {
		if !first[i].zero {
			t.Fatal("a result beside an error", i, x, l, n, first[i].text)
		}
		if first[i] != second[i] {
			t.Fatal("not the same again", i, x, l, n, first[i].text, second[i].text)
		}
	}
}

// No call panics, each ends, each does the same again, and errors come alone.
func TestAnyArguments(t *testing.T) {
	r := random()
	for range 20000 {
		extreme := func() int { return extremes[r.IntN(len(extremes))] }
		right := func(n int) int { // mostly, or else hardly any argument would be valid
			if r.IntN(12) == 0 {
				return extreme()
			}
			return n
		}
		x := api.Tube{Wires: []int{right(-5), right(5)}[r.IntN(8)/7:], Error: right(10)}
		var l []api.Transit
		for range r.IntN(4) {
			one := api.Transit{Star: api.Star{Name: "a", Ascension: right(9), Shift: right(r.IntN(3)), Slow: right(1000)}}
			for range right(len(x.Wires)) % 9 {
				one.Wires = append(one.Wires, right(r.IntN(50)-1))
			}
			l = append(l, one)
		}
		checkTwice(t, x, l, api.Ratio{N: right(1), D: right(1)}, api.Ratio{N: right(3), D: right(2)}, extreme())
	}
}

func TestExtremeArguments(t *testing.T) {
	for _, n := range extremes {
		for _, m := range extremes {
			s := api.Star{Name: "a", Ascension: n, Shift: m, Slow: n}
			x := api.Tube{Wires: []int{m, n}, Error: n}
			checkTwice(t, x, []api.Transit{{Star: s, Wires: []int{n, m}}}, api.Ratio{N: n, D: m}, api.Ratio{N: m, D: n}, n)
			checkTwice(t, single(7), list([2]int{0, 5}, [2]int{0, 5}), api.Ratio{N: n, D: m}, api.Ratio{N: m, D: n}, m)
		}
	}
	huge := make([]api.Transit, 100000)
	checkTwice(t, api.Tube{Wires: make([]int, 100000)}, huge, api.Ratio{}, api.Ratio{}, 0)
	checkTwice(t, single(5), []api.Transit{{Star: api.Star{Name: strings.Repeat("a", 1000000), Slow: 1000}, Wires: make([]int, 1000000)}}, api.Ratio{N: 1, D: 1}, api.Ratio{N: 1, D: 1}, 0)
}

func TestAnyTexts(t *testing.T) {
	for _, s := range []string{"", "\x00", "\xff\xfe", exampleText, "vega 1 2 3\n\xff", strings.Repeat("9", api.MaxText+1), strings.Repeat("\n", api.MaxText), strings.Repeat(" ", api.MaxText)} {
		l, line, e := transit.Parse(s)
		m, again, f := transit.Parse(s)
		if !slices.Equal(l, m) || line != again || e != f || e != api.OK && len(l) != 0 || e != api.ErrSyntax && line != 0 {
			t.Errorf("%.50q: %v, %d, %d", s, l, line, e)
		}
	}
}

// A nil slice and an empty one are the same.
func TestNilAndEmpty(t *testing.T) {
	half := api.Ratio{N: 1, D: 2}
	for _, n := range []int{0, 5, api.Day + 1} {
		for _, pair := range [][2][]api.Transit{{nil, {}}, {{{Star: star(0)}}, {{Star: star(0), Wires: []int{}}}}} {
			for _, x := range []api.Tube{single(3), {}, {Wires: []int{}}} {
				if !slices.Equal(outcomes(x, pair[0], half, half, n), outcomes(x, pair[1], half, half, n)) {
					t.Error(x, n, pair)
				}
			}
		}
		if !slices.Equal(outcomes(api.Tube{}, nil, half, half, n), outcomes(api.Tube{Wires: []int{}}, nil, half, half, n)) {
			t.Error(n)
		}
	}
	if transit.Format(nil) != transit.Format([]api.Star{}) {
		t.Error("Format")
	}
}

// roomy is a slice with the same items and room behind its end, and the whole of it.
func roomy[T any](l []T, more T) (part, all []T) {
	all = append(slices.Clone(l), more, more)
	return all[:len(l)], all
}

func TestArgumentsAreNotChanged(t *testing.T) {
	r := random()
	for range 300 {
		x := anyTube(r)
		var wires, all []int
		wires, all = roomy(x.Wires, 77)
		x.Wires = wires
		var l []api.Transit
		var times [][]int
		for range 1 + r.IntN(5) {
			one := anyTransit(r, x)
			part, whole := roomy(one.Wires, 78)
			one.Wires = part
			l, times = append(l, one), append(times, whole)
		}
		part, whole := roomy(l, missing())
		stars, allStars := roomy([]api.Star{l[0].Star, star(3)}, star(9))
		before := fmt.Sprint(x, all, times, whole, allStars)
		for _, n := range []int{0, 1, -1, 50000000} {
			outcomes(x, part, api.Ratio{N: 1, D: 3}, api.Ratio{N: 2, D: 3}, n)
			outcomes(single(9), part, api.Ratio{N: 1, D: 3}, api.Ratio{N: 2, D: 3}, n)
		}
		transit.Format(stars)
		if after := fmt.Sprint(x, all, times, whole, allStars); after != before {
			t.Fatal(before, after)
		}
	}
}

// scribble writes over all that a list has, also behind its end.
func scribble(l []int) {
	for i := range l[:cap(l)] {
		l[:cap(l)][i] = math.MinInt
	}
}

func TestResultsAreNewMemory(t *testing.T) {
	x := three()
	wired, _ := transit.Wired(x, star(5), 100000)
	scribble(wired.Wires)
	if x.Wires[0] != -10000 || x.Wires[2] != 10000 {
		t.Error("Wired", x)
	}
	// the transits of the argument share their times, those of the result do not, even if nothing moves
	shared := make([]int, 3, 9)
	l := []api.Transit{{Star: star(1), Wires: shared}, {Star: star(2), Wires: shared}, {Star: star(3), Wires: shared[:2]}, {Star: star(3), Wires: shared[1:]}}
	for _, by := range []int{0, 5} {
		moved, e := transit.Moved(l, by)
		if e != api.OK {
			t.Fatal(e)
		}
		for i := range moved {
			want := slices.Repeat([]int{by}, len(l[i].Wires))
			if !slices.Equal(moved[i].Wires, want) {
				t.Error("Moved", by, i, moved)
			}
			scribble(moved[i].Wires)
		}
		if !slices.Equal(shared[:9], make([]int, 9)) {
			t.Error("Moved", by, shared[:9])
		}
		for i := range moved[:cap(moved)] {
			moved[:cap(moved)][i] = api.Transit{}
		}
		if l[0].Star != star(1) || l[3].Star != star(3) {
			t.Error("Moved", by, l)
		}
	}
}

// Results of two calls share nothing either: nothing is kept from the first one.
func TestResultsAreNotKept(t *testing.T) {
	l := list([2]int{5, 0}, [2]int{5, 500}, [2]int{7, 0}, [2]int{5, 501})
	for _, call := range []func(api.Tube, []api.Transit) ([]int, api.Errno){transit.Least, transit.Most} {
		first, _ := call(single(10), l)
		want := slices.Clone(first)
		scribble(first)
		if again, _ := call(single(10), l); len(want) < 2 || !slices.Equal(again, want) {
			t.Error(again, want)
		}
	}
	first, _, _ := transit.Parse(exampleText)
	for i := range first[:cap(first)] {
		first[:cap(first)][i] = api.Star{}
	}
	if again, _, e := transit.Parse(exampleText); !slices.Equal(again, example()) || e != api.OK {
		t.Error(again, e)
	}
}
