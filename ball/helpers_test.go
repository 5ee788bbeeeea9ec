package ball_test

import (
	"math"
	"math/rand/v2"
	"slices"
	"testing"

	"noongun/api"
	"noongun/ball"
)

// The least and the greatest int, and numbers on both sides of each limit.
var extremes = []int{
	math.MinInt, math.MinInt + 1, -api.MaxTime, -api.Day - 1, -api.Day, -7200001, -1001, -1000, -2, -1, 0, 1, 2, 3, 4, 5, 6, 7, 20, 21, 99, 100, 101,
	999, 1000, 1001, 1002, 9999, 10000, 10001, 3599999, 3600000, 3600001, 7199999, 7200000, 7200001, 43200000,
	api.Day - 7200000, api.Day - 2, api.Day - 1, api.Day, api.Day + 1, api.MaxTime, math.MaxInt - 1, math.MaxInt,
}

func random() *rand.Rand {
	return rand.New(rand.NewPCG(1833, 1855))
}

// mast is that of the chapter's example.
func mast() api.Mast {
	return api.Mast{Noon: 43200000, Half: 300000, Full: 120000, Late: 200, Again: 3600000, Wind: 60}
}

// masts are valid, and have numbers at each limit.
func masts() []api.Mast {
	return []api.Mast{
		mast(),
		{Noon: 1001, Half: 1001, Full: 1000, Late: 1000, Again: 1001, Wind: 0},
		{Noon: 1001, Half: 1001, Full: 1000, Late: 0, Again: 7200000, Wind: 1000},
		{Noon: 43200000, Half: 300000, Full: 120000, Late: 0, Again: 300000, Wind: 1000},
		{Noon: 3600000, Half: 3600000, Full: 3599999, Late: 1000, Again: 3600000, Wind: 1},
		{Noon: api.Day - 7200001, Half: 3600000, Full: 1000, Late: 1000, Again: 7200000, Wind: 999},
		{Noon: api.Day - 1002, Half: 1001, Full: 1000, Late: 1000, Again: 1001, Wind: 500},
		{Noon: 50000000, Half: 2000, Full: 1000, Late: 1000, Again: 2000, Wind: 10},
	}
}

// badMasts are those of the example with numbers that make them not valid.
func badMasts() []api.Mast {
	var l []api.Mast
	change := func(by func(x *api.Mast)) {
		x := mast()
		by(&x)
		l = append(l, x)
	}
	for _, n := range []int{math.MinInt, -1, 299999, api.Day - 3600000, api.Day - 1, api.Day, math.MaxInt} {
		change(func(x *api.Mast) { x.Noon = n })
	}
	for _, n := range []int{math.MinInt, -1, 0, 119999, 120000, 3600001, 43200000, math.MaxInt} {
		change(func(x *api.Mast) { x.Half = n })
	}
	for _, n := range []int{math.MinInt, -1, 0, 999, 300000, 300001, math.MaxInt} {
		change(func(x *api.Mast) { x.Full = n })
	}
	for _, n := range []int{math.MinInt, -1, 1001, math.MaxInt} {
		change(func(x *api.Mast) { x.Late = n })
		change(func(x *api.Mast) { x.Wind = n })
	}
	for _, n := range []int{math.MinInt, -1, 0, 299999, 7200001, math.MaxInt} {
		change(func(x *api.Mast) { x.Again = n })
	}
	change(func(x *api.Mast) { x.Half, x.Again = 3600001, 3600001 })
	change(func(x *api.Mast) { x.Noon, x.Half = 200000, 200001 })
	change(func(x *api.Mast) { x.Noon, x.Again = api.Day-7200000, 7200000 })
	return append(l, api.Mast{}, api.Mast{Noon: 1000, Half: 1000, Full: 1000, Again: 1000}, api.Mast{Noon: math.MaxInt, Half: 2000, Full: 1000, Again: math.MaxInt})
}

func badStates() []api.Ball {
	return []api.Ball{
		{Place: -1}, {Place: 4}, {Place: math.MinInt}, {Place: math.MaxInt}, {Wind: -1}, {Wind: 1001}, {Wind: math.MinInt}, {Wind: math.MaxInt},
		{At: -1}, {At: api.Day}, {At: math.MinInt}, {At: math.MaxInt}, {Place: 4, Flag: true}, {Wind: 1001, Flag: true},
	}
}

// badEvents have a time, a kind or a number out of its range.
func badEvents() []api.Event {
	var l []api.Event
	for _, kind := range []int{1, 2, 3, 4, 5, 6} {
		for _, at := range []int{math.MinInt, -1, api.Day, math.MaxInt} {
			l = append(l, api.Event{At: at, Kind: kind})
		}
		for _, n := range []int{math.MinInt, -1, 1001, math.MaxInt} {
			l = append(l, api.Event{At: 43000000, Kind: kind, N: n})
		}
	}
	for _, kind := range []int{2, 3, 4, 5, 6} {
		l = append(l, api.Event{At: 43000000, Kind: kind, N: 1}, api.Event{At: 43000000, Kind: kind, N: 1000})
	}
	for _, kind := range []int{math.MinInt, -1, 0, 7, math.MaxInt} {
		l = append(l, api.Event{At: 43000000, Kind: kind}, api.Event{At: 43000000, Kind: kind, N: 5})
	}
	return append(l, api.Event{})
}

func badWires() [][]api.Relay {
	l := [][]api.Relay{nil, {}, make([]api.Relay, 21), make([]api.Relay, 1000)}
	for _, bad := range []api.Relay{{Lag: -1}, {Lag: 10001}, {Lag: math.MinInt}, {Lag: math.MaxInt}, {Lag: 5, Spread: 6}, {Lag: 5, Spread: -1}, {Spread: 1}, {Lag: 5, Spread: math.MinInt}, {Lag: 10000, Spread: math.MaxInt}, {Lag: math.MinInt, Spread: math.MinInt}, {Lag: -5, Spread: -5}} {
		l = append(l, []api.Relay{bad}, []api.Relay{{Lag: 5, Spread: 5}, bad}, []api.Relay{bad, {Lag: 5, Spread: 5}})
	}
	return l
}

// moments are the times next to those at which something begins or ends.
func moments(x api.Mast) []int {
	l := []int{0, 1, api.Day - 1, api.Day - 2, x.Noon / 2}
	for _, at := range []int{x.Noon, x.Noon + x.Again} {
		for _, before := range []int{x.Half, x.Full, x.Late, 0, -x.Late} {
			for by := -1; by <= 1; by++ {
				l = append(l, at-before+by)
			}
		}
	}
	l = slices.DeleteFunc(l, func(at int) bool { return at < 0 || at >= api.Day })
	slices.Sort(l)
	return slices.Compact(l)
}

// after is the state after an event by the letter of the chapter's table; the event's numbers and time are right.
func after(x api.Mast, s api.Ball, e api.Event) (api.Ball, bool) {
	flag, at := s.Flag, e.At
	switch e.Kind {
	case 1:
		return api.Ball{Place: s.Place, Wind: max(s.Wind, e.N), Flag: flag, At: at}, true
	case 2:
		first := x.Noon-x.Half <= at && at <= x.Noon-x.Full-1
		second := x.Noon+x.Again-x.Half <= at && at <= x.Noon+x.Again-x.Full-1
		return api.Ball{Place: 1, Wind: s.Wind, Flag: flag, At: at}, s.Place == 0 && s.Wind <= x.Wind && (first || second)
	case 3:
		return api.Ball{Place: 2, Wind: s.Wind, Flag: flag, At: at}, s.Place == 1 && x.Noon-x.Full <= at && at <= x.Noon+x.Again
	case 4:
		return api.Ball{Place: 0, Wind: s.Wind, Flag: flag, At: at}, s.Place == 2
	case 5:
		return api.Ball{Place: 3, Wind: s.Wind, Flag: flag, At: at}, s.Place == 2
	}
	return api.Ball{Place: 0, Wind: s.Wind, Flag: true, At: at}, !flag
}

// next is what Next must return for a valid mast and state.
func next(x api.Mast, s api.Ball, e api.Event) (api.Ball, api.Errno) {
	numbers := e.N == 0 || e.Kind == 1 && 0 <= e.N && e.N <= 1000
	if e.At < 0 || e.At > 86399999 || e.Kind < 1 || e.Kind > 6 || !numbers || e.At < s.At {
		return api.Ball{}, api.ErrRange
	}
	t, allowed := after(x, s, e)
	if !allowed {
		return api.Ball{}, api.ErrState
	}
	return t, api.OK
}

// anyMast is valid.
func anyMast(r *rand.Rand) api.Mast {
	for {
		x := api.Mast{Full: 1000 + r.IntN(5000), Late: r.IntN(1001), Wind: r.IntN(1001)}
		x.Half = x.Full + 1 + r.IntN(5000)
		x.Noon = x.Half + r.IntN(api.Day)
		x.Again = x.Half + r.IntN(6000)
		if r.IntN(4) == 0 {
			x.Again = r.IntN(7200001)
		}
		if ball.ValidMast(x) {
			return x
		}
	}
}

// anyEvent is at or after a state, mostly one that may happen.
func anyEvent(r *rand.Rand, x api.Mast, s api.Ball) api.Event {
	var e api.Event
	for range 30 {
		times := moments(x)
		times = times[sortedFrom(times, s.At):]
		e = api.Event{At: s.At, Kind: 1 + r.IntN(6)}
		if len(times) > 0 {
			e.At = times[r.IntN(min(len(times), 12))]
		}
		if e.Kind == 1 {
			e.N = []int{0, r.IntN(1001), x.Wind, 1000}[r.IntN(8)/2] / (1 + r.IntN(3))
		}
		if _, allowed := after(x, s, e); allowed && (e.Kind != 6 || r.IntN(3) == 0) {
			break
		}
	}
	return e
}

func sortedFrom(times []int, at int) int {
	i, _ := slices.BinarySearch(times, at)
	return i
}

// anyLog is a list of events, all of which are allowed.
func anyLog(r *rand.Rand, x api.Mast, most int) []api.Event {
	var l []api.Event
	var s api.Ball
	for range most {
		e := anyEvent(r, x, s)
		t, allowed := after(x, s, e)
		if !allowed {
			break
		}
		l, s = append(l, e), t
	}
	return l
}

// anyWire is valid.
func anyWire(r *rand.Rand, most int) []api.Relay {
	var l []api.Relay
	greatest := []int{10, 100, 10000}[r.IntN(3)]
	for range 1 + r.IntN(most) {
		lag := r.IntN(greatest + 1)
		l = append(l, api.Relay{Lag: lag, Spread: r.IntN(lag + 1)})
	}
	return l
}

// logs calls check for each log of up to a number of events at some times.
func logs(t *testing.T, x api.Mast, times []int, most int, check func(l []api.Event, s api.Ball)) {
	t.Helper()
	var extend func(l []api.Event, s api.Ball)
	extend = func(l []api.Event, s api.Ball) {
		check(l, s)
		if len(l) == most {
			return
		}
		for _, at := range times[sortedFrom(times, s.At):] {
			for kind := 2; kind <= 6; kind++ {
				e := api.Event{At: at, Kind: kind}
				if u, allowed := after(x, s, e); allowed {
					extend(append(slices.Clone(l), e), u)
				}
			}
		}
	}
	extend(nil, api.Ball{})
}
