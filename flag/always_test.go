package flag_test

import (
	"fmt"
	"math"
	"slices"
	"strings"
	"testing"

	"noongun/api"
	"noongun/flag"
)

// outcome is what a call returned, and whether with an error all else was zero.
type outcome struct {
	text string
	zero bool
}

func with[T comparable](result T, e api.Errno) outcome {
	var none T
	return outcome{fmt.Sprint(result, e), e == api.OK || result == none}
}

func listed[T any](l []T, e api.Errno) outcome {
	return outcome{fmt.Sprint(l, e), e == api.OK || len(l) == 0}
}

func alone[T any](result T) outcome {
	return outcome{fmt.Sprint(result), true}
}

// arguments are those of all calls, but for Parse.
type arguments struct {
	digits, hoist []int
	b             []api.Meaning
	text          string
	n, m, flags   int
}

func outcomes(x arguments) []outcome {
	return []outcome{
		alone(flag.ValidDigits(x.digits)), alone(flag.ValidHoist(x.hoist)), listed(flag.Means(x.hoist)), listed(flag.Hoist(x.digits)), listed(flag.Hoists(x.digits, x.flags)), listed(flag.With(x.digits, x.flags)), with(flag.Can(x.n, x.flags)), with(flag.Flags(x.hoist)),
		listed(flag.Missed(x.digits, x.flags)), listed(flag.Digits(x.n)), with(flag.Number(x.digits)), listed(flag.Turned(x.digits)), listed(flag.Checked(x.digits)), with(flag.Right(x.digits)), with(flag.Distance(x.n, x.m)),
		alone(flag.ValidBook(x.b)), with(flag.Look(x.b, x.hoist)), with(flag.Find(x.b, x.text)), listed(flag.Close(x.b, x.n)), listed(flag.Traps(x.b)), listed(flag.Lost(x.b, x.flags)), alone(flag.Format(x.b)),
	}
}

func checkTwice(t *testing.T, x arguments) {
	t.Helper()
	first, second := outcomes(x), outcomes(x)
	for i := range first {
		if !first[i].zero {
			t.Fatal("a result beside an error", i, x, first[i].text)
		}
		if first[i] != second[i] {
			t.Fatal("not the same again", i, x, first[i].text, second[i].text)
		}
	}
}

// P7.1: no call panics, each ends, each does the same again, and errors come alone.
func TestAnyArguments(t *testing.T) {
	r := random()
	for range 5000 {
		right := func(n int) int { // mostly, or else hardly any argument would be valid
			if r.IntN(20) == 0 {
				return extremes[r.IntN(len(extremes))]
			}
			return n
		}
		x := arguments{b: anyBook(r, r.IntN(20), 2000), text: anyText(r), n: right(1 + r.IntN(4)), m: right(r.IntN(10000)), flags: right(r.IntN(8192))}
		for range 1 + r.IntN(4) {
			x.digits = append(x.digits, right(r.IntN(10)))
			x.hoist = append(x.hoist, right(r.IntN(13)))
		}
		if len(x.b) > 0 {
			x.b[0].Number = right(0)
		}
		checkTwice(t, x)
	}
}

func TestExtremeArguments(t *testing.T) {
	for _, n := range extremes {
		for _, m := range extremes {
			checkTwice(t, arguments{digits: []int{n, m}, hoist: []int{m, n}, b: []api.Meaning{{Number: n, Text: "a"}, {Number: m, Text: "b"}}, text: "b", n: n, m: m, flags: n})
			checkTwice(t, arguments{digits: []int{7, 7, 7, 7}, hoist: []int{1, 2, m}, b: signals(), text: "yes", n: n, m: m, flags: m})
		}
	}
	long := make([]int, 1000000)
	checkTwice(t, arguments{digits: long, hoist: long, b: make([]api.Meaning, 1000000), text: strings.Repeat("a", 1000000), n: 1, flags: allFlags})
	checkTwice(t, arguments{b: []api.Meaning{{Number: 1, Text: strings.Repeat("a", 1000000)}}, text: strings.Repeat("a", 1000000)})
}

func TestAnyTexts(t *testing.T) {
	for _, s := range []string{"", "\x00", "\xff\xfe", exampleText, "1 a\n\xff", strings.Repeat("9", api.MaxText+1), strings.Repeat("\n", api.MaxText), strings.Repeat(" ", api.MaxText), "1" + strings.Repeat(" ", 61)} {
		b, line, e := flag.Parse(s)
		c, again, f := flag.Parse(s)
		if !slices.Equal(b, c) || line != again || e != f || e != api.OK && len(b) != 0 || e != api.ErrSyntax && line != 0 {
			t.Errorf("%.50q: %v, %d, %d", s, b, line, e)
		}
	}
}

// A nil slice and an empty one are the same.
func TestNilAndEmpty(t *testing.T) {
	x := arguments{text: "a", n: 1, m: 1}
	y := arguments{digits: []int{}, hoist: []int{}, b: []api.Meaning{}, text: "a", n: 1, m: 1}
	if !slices.Equal(outcomes(x), outcomes(y)) {
		t.Error(outcomes(x), outcomes(y))
	}
}

// roomy is a slice with the same items and room behind its end, and the whole of it.
func roomy[T any](l []T, more T) (part, all []T) {
	all = append(slices.Clone(l), more, more, more)
	return all[:len(l)], all
}

func TestArgumentsAreNotChanged(t *testing.T) {
	r := random()
	numbers := everyNumber()
	for range 500 {
		number := numbers[r.IntN(len(numbers))]
		var x arguments
		var digits, hoist []int
		var b []api.Meaning
		x.digits, digits = roomy(number, 77)
		x.hoist, hoist = roomy(usual(number), 77)
		x.b, b = roomy(anyBook(r, r.IntN(40), 10000), api.Meaning{Number: 77, Text: "seventy-seven"})
		before := fmt.Sprint(digits, hoist, b)
		for n := range 5 {
			x.n, x.m, x.flags = n, r.IntN(10000), []int{allFlags, 0, r.IntN(8192), r.IntN(8192), 8192}[n]
			outcomes(x)
		}
		if after := fmt.Sprint(digits, hoist, b); after != before {
			t.Fatal(before, after)
		}
	}
}

// scribble writes over all that a list has, also behind its end.
func scribble[T any](l []T, with T) {
	for i := range l[:cap(l)] {
		l[:cap(l)][i] = with
	}
}

// checkNew calls twice: the results share nothing, and nothing is kept from the first one.
func checkNew[T comparable](t *testing.T, with T, call func() ([]T, api.Errno)) {
	t.Helper()
	first, _ := call()
	want := slices.Clone(first)
	scribble(first, with)
	if again, e := call(); len(want) < 1 || !slices.Equal(again, want) || e != api.OK {
		t.Error(again, want, e)
	}
}

func TestResultsAreNewMemory(t *testing.T) {
	single, numeral, digits, hoist, b := []int{7}, []int{7}, []int{1, 2, 1}, []int{1, 2, 10}, signals()
	for _, call := range []func() ([]int, api.Errno){
		func() ([]int, api.Errno) { return flag.Means(hoist) }, func() ([]int, api.Errno) { return flag.Means(numeral) }, func() ([]int, api.Errno) { return flag.Hoist(digits) }, func() ([]int, api.Errno) { return flag.Hoist(single) },
		func() ([]int, api.Errno) { return flag.With(digits, allFlags) }, func() ([]int, api.Errno) { return flag.With(single, allFlags) }, func() ([]int, api.Errno) { return flag.Missed(digits, 6) }, func() ([]int, api.Errno) { return flag.Digits(1234) }, func() ([]int, api.Errno) { return flag.Digits(0) },
		func() ([]int, api.Errno) { return flag.Turned(digits) }, func() ([]int, api.Errno) { return flag.Turned(single) }, func() ([]int, api.Errno) { return flag.Checked(digits) }, func() ([]int, api.Errno) { return flag.Lost(b, 7) },
		func() ([]int, api.Errno) {
			l, e := flag.Hoists(digits, allFlags)
			return l[0], e
		},
	} {
		checkNew(t, math.MinInt, call)
	}
	checkNew(t, [2]int{-1, -1}, func() ([][2]int, api.Errno) { return flag.Close(b, 4) })
	checkNew(t, [2]int{-1, -1}, func() ([][2]int, api.Errno) { return flag.Traps(b) })
	checkNew(t, api.Meaning{}, func() ([]api.Meaning, api.Errno) {
		l, _, e := flag.Parse(exampleText)
		return l, e
	})
	if !slices.Equal(single, []int{7}) || !slices.Equal(numeral, []int{7}) || !slices.Equal(digits, []int{1, 2, 1}) || !slices.Equal(hoist, []int{1, 2, 10}) || !slices.Equal(b, signals()) {
		t.Error("an argument is shared", single, numeral, digits, hoist, b)
	}
}
