package ball_test

import (
	"fmt"
	"math"
	"slices"
	"strings"
	"testing"

	"noongun/api"
	"noongun/ball"
)

// outcome is what a call returned, and whether with an error all else was zero.
type outcome struct {
	text string
	e    api.Errno
	zero bool
}

func with[T comparable](result T, e api.Errno) outcome {
	var none T
	return outcome{fmt.Sprint(result, e), e, e == api.OK || result == none}
}

func listed[T any](l []T, e api.Errno) outcome {
	return outcome{fmt.Sprint(l, e), e, e == api.OK || len(l) == 0}
}

// counted has, with an error too, how many events were allowed.
func counted(s api.Ball, n int, e api.Errno) outcome {
	return outcome{fmt.Sprint(s, n, e), e, e == api.OK || s == api.Ball{}}
}

func alone[T any](result T) outcome {
	return outcome{fmt.Sprint(result), api.OK, true}
}

// outcomes are those of all calls, but for Parse.
func outcomes(x api.Mast, s api.Ball, l []api.Event, wire []api.Relay, verdicts []int, n int) []outcome {
	var event api.Event
	if len(l) > 0 {
		event = l[0]
	}
	return []outcome{
		alone(ball.ValidMast(x)), listed(ball.Plan(x)), listed(ball.Second(x)), with(ball.Next(x, s, event)), counted(ball.Run(x, l)), listed(ball.May(x, s, n)),
		with(ball.Verdict(x, l)), with(ball.Off(x, l)), alone(ball.Fault(n)), alone(ball.Word(n)), with(ball.Count(verdicts)),
		alone(ball.ValidWire(wire)), with(ball.Lag(wire)), with(ball.Send(wire, n)), with(ball.Falls(wire, n)), with(ball.Sure(x, wire)), alone(ball.Format(l)),
	}
}

func checkTwice(t *testing.T, x api.Mast, s api.Ball, l []api.Event, wire []api.Relay, verdicts []int, n int) {
	t.Helper()
	first, second := outcomes(x, s, l, wire, verdicts, n), outcomes(x, s, l, wire, verdicts, n)
	for i := range first {
		if !first[i].zero {
			t.Fatal("a result beside an error", i, x, s, n, first[i].text)
		}
		if first[i] != second[i] {
			t.Fatal("not the same again", i, x, s, n, first[i].text, second[i].text)
		}
	}
}

// No call panics, each ends, each does the same again, and errors come alone.
func TestAnyArguments(t *testing.T) {
	r := random()
	for range 20000 {
		extreme := func() int { return extremes[r.IntN(len(extremes))] }
		right := func(n int) int { // mostly, or else hardly any argument would be valid
			if r.IntN(16) == 0 {
				return extreme()
			}
			return n
		}
		m := masts()[r.IntN(len(masts()))]
		x := api.Mast{Noon: right(m.Noon), Half: right(m.Half), Full: right(m.Full), Late: right(m.Late), Again: right(m.Again), Wind: right(m.Wind)}
		s := api.Ball{Place: right(r.IntN(4)), Wind: right(r.IntN(1001)), Flag: r.IntN(2) == 0, At: right(r.IntN(3))}
		var l []api.Event
		for range r.IntN(5) {
			l = append(l, api.Event{At: right(len(l)), Kind: right(1 + r.IntN(6)), N: right(0)})
		}
		var wire []api.Relay
		var verdicts []int
		for range r.IntN(5) {
			wire = append(wire, api.Relay{Lag: right(9), Spread: right(9)})
			verdicts = append(verdicts, right(r.IntN(6)))
		}
		checkTwice(t, x, s, l, wire, verdicts, right(r.IntN(api.Day)))
	}
}

func TestExtremeArguments(t *testing.T) {
	for _, n := range extremes {
		for _, m := range extremes {
			x := api.Mast{Noon: n, Half: m, Full: n, Late: m, Again: m, Wind: n}
			s, l := api.Ball{Place: n, Wind: m, At: n}, []api.Event{{At: n, Kind: m, N: n}, {At: m, Kind: n, N: m}}
			wire := []api.Relay{{Lag: n, Spread: m}, {Lag: n, Spread: n}}
			checkTwice(t, x, s, l, wire, []int{n, m}, m)
			checkTwice(t, mast(), api.Ball{}, l, wire, []int{n}, m)
			checkTwice(t, mast(), api.Ball{At: n}, []api.Event{{At: m, Kind: 1, N: n}}, []api.Relay{{Lag: 5}}, nil, m)
		}
	}
	checkTwice(t, mast(), api.Ball{}, make([]api.Event, 1000000), make([]api.Relay, 1000000), make([]int, 1000000), 0)
}

func TestAnyTexts(t *testing.T) {
	for _, s := range []string{"", "\x00", "\xff\xfe", exampleText, "0 1 2\n\xff", strings.Repeat("9", api.MaxText+1), strings.Repeat("\n", api.MaxText), strings.Repeat(" ", api.MaxText)} {
		l, line, e := ball.Parse(s)
		m, again, f := ball.Parse(s)
		if !slices.Equal(l, m) || line != again || e != f || e != api.OK && len(l) != 0 || e != api.ErrSyntax && line != 0 {
			t.Errorf("%.50q: %v, %d, %d", s, l, line, e)
		}
	}
}

// A nil slice and an empty one are the same.
func TestNilAndEmpty(t *testing.T) {
	for _, x := range []api.Mast{mast(), {}} {
		if !slices.Equal(outcomes(x, api.Ball{}, nil, nil, nil, 5), outcomes(x, api.Ball{}, []api.Event{}, []api.Relay{}, []int{}, 5)) {
			t.Error(x)
		}
	}
}

// roomy is a slice with the same items and room behind its end, and the whole of it.
func roomy[T any](l []T, more T) (part, all []T) {
	all = append(slices.Clone(l), more, more)
	return all[:len(l)], all
}

func TestArgumentsAreNotChanged(t *testing.T) {
	r := random()
	for range 500 {
		x := anyMast(r)
		l, events := roomy(anyLog(r, x, 9), api.Event{At: 9, Kind: 6})
		wire, relays := roomy(anyWire(r, 6), api.Relay{Lag: 3})
		verdicts, numbers := roomy([]int{5, 0, r.IntN(7)}, 4)
		before := fmt.Sprint(events, relays, numbers)
		for _, n := range []int{0, 1, -1, 50000000} {
			outcomes(x, api.Ball{}, l, wire, verdicts, n)
		}
		if after := fmt.Sprint(events, relays, numbers); after != before {
			t.Fatal(before, after)
		}
	}
}

// scribble writes over all that a list has, also behind its end.
func scribble[T any](l []T, with T) {
	for i := range l[:cap(l)] {
		l[:cap(l)][i] = with
	}
}

// Results of two calls share nothing: nothing is kept from the first one.
func TestResultsAreNewMemory(t *testing.T) {
	for _, call := range []func() ([]api.Event, api.Errno){
		func() ([]api.Event, api.Errno) { return ball.Plan(mast()) },
		func() ([]api.Event, api.Errno) { return ball.Second(mast()) },
		func() ([]api.Event, api.Errno) {
			l, _, e := ball.Parse(exampleText)
			return l, e
		},
	} {
		first, _ := call()
		want := slices.Clone(first)
		scribble(first, api.Event{At: math.MinInt})
		if again, e := call(); len(want) < 3 || !slices.Equal(again, want) || e != api.OK {
			t.Error(again, want, e)
		}
	}
	kinds, _ := ball.May(mast(), api.Ball{}, 42900000)
	scribble(kinds, math.MinInt)
	if again, e := ball.May(mast(), api.Ball{}, 42900000); !slices.Equal(again, []int{1, 2, 6}) || e != api.OK {
		t.Error(again, e)
	}
	count, _ := ball.Count([]int{1, 1})
	count[1] = 9
	if again, e := ball.Count([]int{1, 1}); again != [6]int{0, 2} || e != api.OK {
		t.Error(again, e)
	}
}
