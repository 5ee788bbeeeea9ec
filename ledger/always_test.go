package ledger_test

import (
	"fmt"
	"slices"
	"strings"
	"testing"

	"noongun/api"
	"noongun/ledger"
)

// outcome is what a call returned, and whether with an error all else was zero.
type outcome struct {
	text string
	zero bool
}

func with[T comparable](result T, e api.Errno) outcome {
	var none T
	return outcome{fmt.Sprint(result, e), e == api.OK || result == none}
}

func withTwo(a, b int, e api.Errno) outcome {
	return outcome{fmt.Sprint(a, b, e), e == api.OK || a == 0 && b == 0}
}

func listed[T any](l []T, e api.Errno) outcome {
	return outcome{fmt.Sprint(l, e), e == api.OK || len(l) == 0}
}

func alone[T any](result T) outcome {
	return outcome{fmt.Sprint(result), true}
}

// arguments are those of all calls, but for Parse.
type arguments struct {
	l, other []api.Entry
	x        api.Entry
	n, m     int
}

func outcomes(x arguments) []outcome {
	return []outcome{
		alone(ledger.Valid(x.l)), with(ledger.Said(x.l, x.n)), with(ledger.Found(x.l, x.n)), with(ledger.Off(x.l, x.n)), listed(ledger.Days(x.l)), listed(ledger.Unfound(x.l)), listed(ledger.Corrections(x.l)),
		with(ledger.Sum(x.l, x.n, x.m)), with(ledger.Mean(x.l, x.n, x.m)), with(ledger.Worst(x.l)), withTwo(ledger.Streak(x.l, x.n)), listed(ledger.Letters(x.l, x.n)), with(ledger.Rated(x.l, x.n, x.m)), with(ledger.Fine(x.l, x.n, x.m)),
		listed(ledger.Added(x.l, x.x)), listed(ledger.Merged(x.l, x.other)), listed(ledger.Last(x.l)), listed(ledger.Shifted(x.l, x.n)), alone(ledger.Digest(x.l)), alone(ledger.Format(x.l)),
	}
}

func checkTwice(t *testing.T, x arguments) {
	t.Helper()
	first, second := outcomes(x), outcomes(x)
	for i := range first {
		if !first[i].zero {
			t.Fatal("a result beside an error", i, x, first[i].text)
		}
		if first[i] != second[i] {
			t.Fatal("not the same again", i, x, first[i].text, second[i].text)
		}
	}
}

// P9.1: no call panics, each ends, each does the same again, and errors come alone.
func TestAnyArguments(t *testing.T) {
	r := random()
	for range 5000 {
		right := func(n int) int { // mostly, or else hardly any argument would be valid
			if r.IntN(20) == 0 {
				return extremes[r.IntN(len(extremes))]
			}
			return n
		}
		x := arguments{l: anyEntries(r, r.IntN(30)), other: anyEntries(r, r.IntN(5)), x: said(right(5), right(2)), n: right(r.IntN(10)), m: right(r.IntN(20))}
		if len(x.l) > 0 && r.IntN(4) == 0 {
			i := r.IntN(len(x.l))
			x.l[i].Day, x.l[i].Error = right(3), right(7)
		}
		checkTwice(t, x)
	}
}

func TestExtremeArguments(t *testing.T) {
	for _, n := range extremes {
		for _, m := range extremes {
			checkTwice(t, arguments{l: []api.Entry{said(n, m), found(n, m), found(m, n)}, other: []api.Entry{found(n, n)}, x: said(m, n), n: n, m: m})
			checkTwice(t, arguments{l: example(), other: example(), x: found(n, m), n: n, m: m})
			checkTwice(t, arguments{n: n, m: m, x: said(n, m)})
		}
	}
	many := make([]api.Entry, 1000000)
	for _, x := range []arguments{{l: many, other: many}, {l: full(), other: many}, {l: full(), other: full()}, {l: many, other: full()}, {l: full(), m: lastDay}} {
		checkTwice(t, x)
	}
}

func TestAnyTexts(t *testing.T) {
	for _, s := range []string{"", "\x00", "\xff\xfe", exampleText, "5 said 1\n\xff", strings.Repeat("9", api.MaxText+1), strings.Repeat("\n", api.MaxText), strings.Repeat(" ", api.MaxText), "5" + strings.Repeat(" 1", 30000)} {
		l, line, e := ledger.Parse(s)
		m, again, f := ledger.Parse(s)
		if !slices.Equal(l, m) || line != again || e != f || e != api.OK && len(l) != 0 || e != api.ErrSyntax && line != 0 {
			t.Errorf("%.50q: %v, %d, %d", s, l, line, e)
		}
	}
}

// A nil slice and an empty one are the same.
func TestNilAndEmpty(t *testing.T) {
	for _, n := range extremes {
		x := arguments{n: n, m: n}
		y := x
		y.l, y.other = []api.Entry{}, []api.Entry{}
		if !slices.Equal(outcomes(x), outcomes(y)) {
			t.Error(n, outcomes(x), outcomes(y))
		}
		x.l, y.l = example(), example()
		if !slices.Equal(outcomes(x), outcomes(y)) {
			t.Error(n, outcomes(x), outcomes(y))
		}
	}
}

// roomy is a slice with the same items and room behind its end, and the whole of it.
func roomy[T any](l []T, more T) (part, all []T) {
	all = append(slices.Clone(l), more, more, more)
	return all[:len(l)], all
}

func TestArgumentsAreNotChanged(t *testing.T) {
	r := random()
	for range 500 {
		var x arguments
		var l, other []api.Entry
		x.l, l = roomy(anyEntries(r, r.IntN(30)), said(77, 78))
		x.other, other = roomy(anyEntries(r, r.IntN(4)), found(77, 78))
		before := fmt.Sprint(l, other)
		x.x = said(3, 4)
		for n := range 5 {
			x.n, x.m = n, 5
			outcomes(x)
		}
		if after := fmt.Sprint(l, other); after != before {
			t.Fatal(before, after)
		}
	}
}

// scribble writes over all that a list has, also behind its end.
func scribble[T any](l []T, with T) {
	for i := range l[:cap(l)] {
		l[:cap(l)][i] = with
	}
}

// checkNew calls twice: the results share nothing, and nothing is kept from the first one.
func checkNew[T comparable](t *testing.T, with T, call func() ([]T, api.Errno)) {
	t.Helper()
	first, _ := call()
	want := slices.Clone(first)
	scribble(first, with)
	if again, e := call(); len(want) < 1 || !slices.Equal(again, want) || e != api.OK {
		t.Error(again, want, e)
	}
}

func TestResultsAreNewMemory(t *testing.T) {
	l, whole := roomy(example(), said(77, 78))
	before := slices.Clone(whole)
	for _, call := range []func([]api.Entry) ([]int, api.Errno){ledger.Days, ledger.Unfound, ledger.Corrections, func(l []api.Entry) ([]int, api.Errno) { return ledger.Letters(l, 3) }} {
		checkNew(t, -1, func() ([]int, api.Errno) { return call(l) })
	}
	for _, call := range []func() ([]api.Entry, api.Errno){
		func() ([]api.Entry, api.Errno) { return ledger.Added(l, said(1, 2)) }, func() ([]api.Entry, api.Errno) { return ledger.Added(nil, said(1, 2)) }, func() ([]api.Entry, api.Errno) { return ledger.Merged(l, l) }, func() ([]api.Entry, api.Errno) { return ledger.Merged(l, nil) }, func() ([]api.Entry, api.Errno) { return ledger.Merged(nil, l) },
		func() ([]api.Entry, api.Errno) { return ledger.Last(l) }, func() ([]api.Entry, api.Errno) { return ledger.Shifted(l, 3) }, func() ([]api.Entry, api.Errno) { return ledger.Shifted(l, 0) },
		func() ([]api.Entry, api.Errno) { l, _, e := ledger.Parse(exampleText); return l, e },
	} {
		checkNew(t, found(-1, -1), call)
	}
	if !slices.Equal(whole, before) {
		t.Error("an argument is shared", whole)
	}
}
