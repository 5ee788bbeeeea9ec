package station_test

import (
	"fmt"
	"math"
	"slices"
	"testing"

	"noongun/api"
	"noongun/station"
)

func TestExample(t *testing.T) {
	x := set(t, rates())
	checkDo(t, x, "sight 0 1 0 100 100", "sights 1")
	checkDo(t, x, "error 1 1000000", "error 90 110")
	checkRefused(t, x, "sight 1000000 1 0 150 160", api.ErrState)
	checkDo(t, x, "torn 10", "flags 12")
	checkRefused(t, x, "hoist 11", api.ErrFlag)
	if want := bookOf("sight 0 1 0 100 100", "error 1 1000000", "torn 10"); x.Book() != want {
		t.Errorf("%q, not %q", x.Book(), want)
	}
}

// A new station has a day without events, all flags and nothing else.
func TestNew(t *testing.T) {
	for _, l := range [][]int{{0, 0}, rates(), {0, 1000000}, {0, 1, 2, 3, 4, 5, 6, 7}} {
		x, e := station.New(mast(), l)
		if e != api.OK || x == nil {
			t.Fatal(l, e)
		}
		if got, want := told(x), fmt.Sprintf("0 {%v []} [] {0 0 false 0} [] [] 8191\n", l); got != want {
			t.Errorf("%q, not %q", got, want)
		}
	}
}

func badRates() [][]int {
	return [][]int{nil, {}, {0}, {1, 0}, {-1, 0}, {0, -1}, {0, 1000001}, {0, 0, math.MinInt}, {0, math.MaxInt}, make([]int, 9), make([]int, 1000000)}
}

func badMasts() []api.Mast {
	l := []api.Mast{{}, {Noon: math.MaxInt, Half: math.MaxInt, Full: math.MaxInt, Late: math.MaxInt, Again: math.MaxInt, Wind: math.MaxInt}}
	for i := range 6 {
		m := mast()
		*[]*int{&m.Noon, &m.Half, &m.Full, &m.Late, &m.Again, &m.Wind}[i] = -1
		l = append(l, m)
	}
	return l
}

func TestNewIsInvalid(t *testing.T) {
	check := func(m api.Mast, rates []int) {
		t.Helper()
		if x, e := station.New(m, rates); x != nil || e != api.ErrInvalid {
			t.Error(m, len(rates), e)
		}
		for _, book := range []string{"", bookOf("close"), "0", "\n", string(make([]byte, 600001))} { // New's errors come first
			if x, n, e := station.Replay(m, rates, book); x != nil || n != 0 || e != api.ErrInvalid {
				t.Error("Replay", m, len(rates), n, e)
			}
			if l, e := station.Replies(m, rates, book); len(l) != 0 || e != api.ErrInvalid {
				t.Error("Replies", m, len(rates), l, e)
			}
			if l, e := station.Faults(m, rates, book); len(l) != 0 || e != api.ErrInvalid {
				t.Error("Faults", m, len(rates), l, e)
			}
		}
	}
	for _, l := range badRates() {
		check(mast(), l)
	}
	for _, m := range badMasts() {
		check(m, rates())
		check(m, nil)
	}
}

func TestNilStation(t *testing.T) {
	var x *station.Station
	for _, line := range []string{"", "close", "close ", "error 0 0", "torn 13", "no line"} {
		if reply, e := x.Do(line); reply != "" || e != api.ErrState {
			t.Errorf("%q: %q, %d", line, reply, e)
		}
	}
	if got := told(x); got != "0 {[] []} [] {0 0 false 0} [] [] 0\n" || x.Copy() != nil {
		t.Errorf("%q", got)
	}
}

// A station that New did not set up can do nothing, as a nil one.
func TestNoStation(t *testing.T) {
	x := new(station.Station)
	for _, line := range []string{"close", "say 5", "mended 3", "error 0 0", "event 0 1 0", "drop 0", "best 0", "no line"} {
		checkRefused(t, x, line, api.ErrState)
	}
	if told(x) != told(nil) || told(x.Copy()) != told(nil) {
		t.Error(told(x))
	}
}

// All that a station tells, behind all kinds of lines.
func TestTelling(t *testing.T) {
	x := set(t, rates(), "sight 5 1 0 -7 9", "event 6 1 12", "say -3", "torn 2", "close", "sight 8 0 1 -1 2", "say 4", "found 0 7", "found 1 -8", "event 42900000 2 0", "event 43080000 3 0", "torn 12", "event 43100000 1 9")
	if x.Day() != 1 || x.Flags() != 8191-4-4096 {
		t.Error(x.Day(), x.Flags())
	}
	if net := x.Net(); !slices.Equal(net.Rates, rates()) || !slices.Equal(net.Sights, []api.Sight{{At: 5, A: 1, Lo: -7, Hi: 9}, {At: api.Day + 8, B: 1, Lo: -1, Hi: 2}}) {
		t.Error(net)
	}
	if log := x.Log(); !slices.Equal(log, []api.Event{{At: 42900000, Kind: api.EHalf}, {At: 43080000, Kind: api.EFull}, {At: 43100000, Kind: api.EWind, N: 9}}) {
		t.Error(log)
	}
	if b := x.Ball(); b != (api.Ball{Place: api.BFull, Wind: 9, At: 43100000}) {
		t.Error(b)
	}
	if l := x.Verdicts(); !slices.Equal(l, []int{api.VSilent}) {
		t.Error(l)
	}
	if l := x.Ledger(); !slices.Equal(l, []api.Entry{{Error: -3}, {Day: 1, Error: 4}, {Found: true, Error: 7}, {Day: 1, Found: true, Error: -8}}) {
		t.Error(l)
	}
}

// P10.4
func TestVerdicts(t *testing.T) {
	want := []int{api.VGood, api.VWrong, api.VFalse, api.VAgain, api.VTold, api.VSilent, api.VFalse, api.VGood}
	x := set(t, rates(), daysOf(want...)...)
	if l := x.Verdicts(); !slices.Equal(l, want) || x.Day() != len(want) || len(x.Log()) != 0 || x.Ball() != (api.Ball{}) {
		t.Error(l, x.Day(), x.Log(), x.Ball())
	}
}

// scribble writes over all that a list has, also behind its end.
func scribble[T any](l []T, with T) {
	for i := range l[:cap(l)] {
		l[:cap(l)][i] = with
	}
}

// P10.1: what a station gives out is not what it keeps.
func TestResultsAreNewMemory(t *testing.T) {
	given := append(rates(), 77, 78)[:2]
	x, _ := station.New(mast(), given)
	scribble(given, -1)
	all(t, x, daysOf(api.VGood, api.VSilent)...)
	all(t, x, "sight 5 1 0 -7 9", "event 6 1 12", "say -3", "found 1 3")
	before := told(x)
	for range 2 {
		scribble(x.Net().Rates, -1)
		scribble(x.Net().Sights, api.Sight{At: -1})
		scribble(x.Log(), api.Event{At: -1})
		scribble(x.Verdicts(), -1)
		scribble(x.Ledger(), api.Entry{Day: -1})
		if told(x) != before {
			t.Fatal(told(x), before)
		}
	}
	all(t, x, "sight 6 1 0 -7 9", "event 6 1 13", "close", "say -3")
	if want := set(t, rates(), textsOf(t, x)...); told(x) != told(want) {
		t.Error(told(x), told(want))
	}
}

// textsOf are the lines that a station did.
func textsOf(t *testing.T, x *station.Station) []string {
	t.Helper()
	lines, _, e := station.Lines(x.Book())
	if e != api.OK {
		t.Fatal(e)
	}
	var l []string
	for _, line := range lines {
		l = append(l, line.Text)
	}
	return l
}

// P10.1: a copy and its station do not change each other, whichever of them goes on first.
func TestCopy(t *testing.T) {
	lines := append(daysOf(api.VGood, api.VFalse), "sight 5 1 0 -7 9", "event 6 1 12", "say -3", "found 1 3", "torn 5", "sight 6 1 0 -7 9", "event 7 1 13", "say 4", "close", "drop 0", "mended 5")
	others := []string{"event 80000000 1 999", "say 77", "torn 7", "sight 9 1 0 -9 9", "close", "found 0 76", "event 9 6 0"}
	for n := range lines {
		x := set(t, rates(), lines[:n]...)
		y := x.Copy()
		if told(y) != told(x) {
			t.Fatal(told(y), told(x))
		}
		first, second := x, y
		if n%2 == 1 {
			first, second = y, x
		}
		all(t, first, others...)
		if want := set(t, rates(), lines[:n]...); told(second) != told(want) {
			t.Fatal(n, told(second), told(want))
		}
		all(t, second, lines[n:]...)
		if want := set(t, rates(), append(slices.Clone(lines[:n]), others...)...); told(first) != told(want) {
			t.Fatal(n, told(first), told(want))
		}
		if want := set(t, rates(), lines...); told(second) != told(want) {
			t.Fatal(n, told(second), told(want))
		}
	}
}
