package rate_test

import (
	"fmt"
	"math"
	"slices"
	"strings"
	"testing"

	"noongun/api"
	"noongun/rate"
)

// outcome is what a call returned, and whether with an error all else was zero.
type outcome struct {
	text string
	zero bool
}

func with[T comparable](result T, e api.Errno) outcome {
	var none T
	return outcome{fmt.Sprint(result, e), e == api.OK || result == none}
}

func listed[T any](l []T, e api.Errno) outcome {
	return outcome{fmt.Sprint(l, e), e == api.OK || len(l) == 0}
}

func boxed(b api.Box, e api.Errno) outcome {
	return outcome{fmt.Sprint(b, e), e == api.OK || none(b)}
}

func both(m, n int, e api.Errno) outcome {
	return outcome{fmt.Sprint(m, n, e), e == api.OK || m == 0 && n == 0}
}

func alone[T any](result T) outcome {
	return outcome{fmt.Sprint(result), true}
}

// arguments are those of all calls, but for Parse.
type arguments struct {
	a, b          api.Box
	l             []api.Box
	trials        []api.Trial
	prices        []int
	n, m, o, p, q int
}

func outcomes(x arguments) []outcome {
	return []outcome{
		alone(rate.ValidBox(x.a)), alone(rate.ValidBoxes(x.l)), listed(rate.Daily(x.a)), listed(rate.Weekly(x.a)), with(rate.Mean(x.a)), with(rate.Trial(x.a)), listed(rate.Ranked(x.l)), listed(rate.Passed(x.l, x.n)), listed(rate.Bought(x.trials, x.prices, x.n)),
		with(rate.Ahead(x.a, x.n, x.m)), listed(rate.Leaps(x.a, x.n)), with(rate.Warm(x.n, x.m, x.o, x.p, x.q)), with(rate.Odd(x.l)), both(rate.Arc(x.n)), with(rate.Days(api.Span{Lo: x.n, Hi: x.m}, x.o)), boxed(rate.Shifted(x.a, x.n, x.m)), boxed(rate.Joined(x.a, x.b)), alone(rate.Format(x.l)),
	}
}

func checkTwice(t *testing.T, x arguments) {
	t.Helper()
	first, second := outcomes(x), outcomes(x)
	for i := range first {
		if !first[i].zero {
			t.Fatal("a result beside an error", i, x, first[i].text)
		}
		if first[i] != second[i] {
			t.Fatal("not the same again", i, x, first[i].text, second[i].text)
		}
	}
}

// P6.1: no call panics, each ends, each does the same again, and errors come alone.
func TestAnyArguments(t *testing.T) {
	r := random()
	for range 5000 {
		right := func(n int) int { // mostly, or else hardly any argument would be valid
			if r.IntN(20) == 0 {
				return extremes[r.IntN(len(extremes))]
			}
			return n
		}
		count := 2 + r.IntN(20)
		x := arguments{a: anyBox(r, "a", count), b: anyBox(r, "b", count), l: anyBoxes(r, []int{3, 3, 1 + r.IntN(16)}[r.IntN(3)], count, count), n: right(r.IntN(9)), m: right(r.IntN(9)), o: right(r.IntN(9)), p: right(r.IntN(9)), q: right(r.IntN(9))}
		x.a.Errors[r.IntN(count)] = right(5)
		x.l[0].Errors[r.IntN(count)] = right(5)
		for range r.IntN(8) {
			x.trials = append(x.trials, api.Trial{Number: right(r.IntN(9))})
			x.prices = append(x.prices, right(r.IntN(5)))
		}
		checkTwice(t, x)
	}
}

func TestExtremeArguments(t *testing.T) {
	long := box("a", make([]int, 1000000)...)
	for _, n := range extremes {
		for _, m := range extremes {
			x := arguments{a: box("a", n, m), b: box("b", m, n), l: []api.Box{box("a", n, m), box("b", 5, n)}, trials: []api.Trial{{Least: n, Number: n}, {Number: m}}, prices: []int{m, n}, n: n, m: m, o: n, p: m, q: m}
			checkTwice(t, x)
			x.a, x.b, x.l, x.trials, x.prices = example(), example(), []api.Box{example()}, make([]api.Trial, 2), []int{5, 6}
			checkTwice(t, x)
			x.q, x.p, x.o = n, 5, 0
			checkTwice(t, x)
		}
	}
	checkTwice(t, arguments{a: long, b: long, l: make([]api.Box, 1000000), trials: make([]api.Trial, 1000000), prices: make([]int, 1000000), n: 1, m: 1})
	checkTwice(t, arguments{a: box(strings.Repeat("a", 1000000), 1, 2), b: example(), l: []api.Box{long}, n: 1, m: 1})
}

func TestAnyTexts(t *testing.T) {
	for _, s := range []string{"", "\x00", "\xff\xfe", exampleText, "a 1 2\n\xff", strings.Repeat("9", api.MaxText+1), strings.Repeat("\n", api.MaxText), strings.Repeat(" ", api.MaxText), "a" + strings.Repeat(" 7", 399)} {
		l, line, e := rate.Parse(s)
		m, again, f := rate.Parse(s)
		if !slices.EqualFunc(l, m, same) || line != again || e != f || e != api.OK && len(l) != 0 || e != api.ErrSyntax && line != 0 {
			t.Errorf("%.50q: %v, %d, %d", s, l, line, e)
		}
	}
}

// A nil slice and an empty one are the same.
func TestNilAndEmpty(t *testing.T) {
	x := arguments{a: api.Box{Name: "a"}, b: example(), n: 1, m: 1}
	y := arguments{a: box("a"), b: example(), l: []api.Box{}, trials: []api.Trial{}, prices: []int{}, n: 1, m: 1}
	y.a.Errors = []int{}
	if !slices.Equal(outcomes(x), outcomes(y)) {
		t.Error(outcomes(x), outcomes(y))
	}
}

// roomy is a slice with the same items and room behind its end, and the whole of it.
func roomy[T any](l []T, more T) (part, all []T) {
	all = append(slices.Clone(l), more, more, more)
	return all[:len(l)], all
}

func TestArgumentsAreNotChanged(t *testing.T) {
	r := random()
	for range 500 {
		count := 15 + r.IntN(9)
		x := arguments{a: anyBox(r, "a", count), b: anyBox(r, "b", 3), trials: []api.Trial{{Number: 9}, {Number: 8}, {Number: 7}}}
		var first, second, prices []int
		var boxes []api.Box
		var trials []api.Trial
		x.a.Errors, first = roomy(x.a.Errors, 77)
		x.b.Errors, second = roomy(x.b.Errors, 77)
		x.prices, prices = roomy([]int{3, 2, 1}, 77)
		x.l, boxes = roomy(anyBoxes(r, 3, count, count), box("z", 7, 7))
		x.trials, trials = roomy(x.trials, api.Trial{Number: 77})
		before := fmt.Sprint(first, second, prices, boxes, trials)
		for _, n := range []int{0, 1, 7, -1, 50000000} {
			x.n, x.m = n, 1
			outcomes(x)
		}
		if after := fmt.Sprint(first, second, prices, boxes, trials); after != before {
			t.Fatal(before, after)
		}
	}
}

// scribble writes over all that a list has, also behind its end.
func scribble[T any](l []T, with T) {
	for i := range l[:cap(l)] {
		l[:cap(l)][i] = with
	}
}

// checkNew calls twice: the results share nothing, and nothing is kept from the first one.
func checkNew[T comparable](t *testing.T, with T, call func() ([]T, api.Errno)) {
	t.Helper()
	first, _ := call()
	want := slices.Clone(first)
	scribble(first, with)
	if again, e := call(); len(want) < 2 || !slices.Equal(again, want) || e != api.OK {
		t.Error(again, want, e)
	}
}

func TestResultsAreNewMemory(t *testing.T) {
	a, b := example(), box("b", 1, 2, 4, 8)
	l := []api.Box{example(), box("a", make([]int, 20)...), box("b", make([]int, 30)...)}
	checkNew(t, math.MinInt, func() ([]int, api.Errno) { return rate.Daily(a) })
	checkNew(t, math.MinInt, func() ([]int, api.Errno) { return rate.Weekly(a) })
	checkNew(t, math.MinInt, func() ([]int, api.Errno) { return rate.Leaps(b, 0) })
	checkNew(t, math.MinInt, func() ([]int, api.Errno) { return rate.Bought(make([]api.Trial, 5), make([]int, 5), 0) })
	checkNew(t, api.Trial{Name: "x"}, func() ([]api.Trial, api.Errno) { return rate.Ranked(l) })
	checkNew(t, "x", func() ([]string, api.Errno) { return rate.Passed(l, 100) })
	checkNew(t, math.MinInt, func() ([]int, api.Errno) {
		x, e := rate.Shifted(a, 0, 0)
		return x.Errors, e
	})
	for _, pair := range [][2]api.Box{{a, b}, {b, a}, {a, a}} {
		checkNew(t, math.MinInt, func() ([]int, api.Errno) {
			x, e := rate.Joined(pair[0], pair[1])
			return x.Errors, e
		})
	}
	if !same(a, example()) || !same(b, box("b", 1, 2, 4, 8)) || !same(l[0], example()) {
		t.Error("an argument is shared", a, b, l)
	}
}

// The boxes of one result share no memory either.
func TestParsedBoxesAreNewMemory(t *testing.T) {
	want := exampleBoxes()
	for i := range want {
		l, _, e := rate.Parse(exampleText)
		scribble(l[i].Errors, math.MinInt)
		if !same(l[1-i], want[1-i]) || e != api.OK {
			t.Error(i, l, e)
		}
		scribble(l, api.Box{})
		if again, _, e := rate.Parse(exampleText); !slices.EqualFunc(again, want, same) || e != api.OK {
			t.Error(again, e)
		}
	}
}
