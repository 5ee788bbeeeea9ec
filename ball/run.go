package ball

import (
	"iter"

	"noongun/api"
)

// The places of the ball, numbered as in package api.
const (
	down = iota
	half
	full
	stuck
)

// rule is what the mast asks of a kind of events, and what such an event does.
type rule struct {
	allows func(s api.Ball, at int) bool
	does   func(s api.Ball, n int) api.Ball
}

// rules are those of all kinds, by their numbers; there is no kind 0.
type rules [api.EFlag + 1]rule

func rulesOf(x api.Mast) rules {
	raises := func(s api.Ball, at int) bool {
		return s.Place == down && s.Wind <= x.Wind && (isBefore(x, x.Noon, at) || isBefore(x, again(x), at))
	}
	fills := func(s api.Ball, at int) bool {
		return s.Place == half && at >= x.Noon-x.Full && at <= again(x)
	}
	return rules{
		api.EWind:  {always, blows},
		api.EHalf:  {raises, goesTo(half)},
		api.EFull:  {fills, goesTo(full)},
		api.EDrop:  {is(full), goesTo(down)},
		api.EStuck: {is(full), goesTo(stuck)},
		api.EFlag:  {hasNoFlag, flags},
	}
}

// Next returns the state after an event.
func Next(x api.Mast, s api.Ball, e api.Event) (api.Ball, api.Errno) {
	if !ValidMast(x) || !isState(s) {
		return api.Ball{}, api.ErrInvalid
	}
	return rulesOf(x).next(s, e)
}

// Run returns the state after a log, and how many of its events were allowed before the first that has an error.
func Run(x api.Mast, l []api.Event) (api.Ball, int, api.Errno) {
	if !ValidMast(x) {
		return api.Ball{}, 0, api.ErrInvalid
	}
	if len(l) > api.MaxEvents {
		return api.Ball{}, 0, api.ErrRange
	}
	last, allowed := api.Ball{}, 0
	for s, e := range states(x, l) {
		if e != api.OK {
			return api.Ball{}, allowed, e
		}
		last = s
		allowed++
	}
	return last, allowed, api.OK
}

// May returns the kinds of events that are allowed at a time.
func May(x api.Mast, s api.Ball, at int) ([]int, api.Errno) {
	if !ValidMast(x) || !isState(s) {
		return nil, api.ErrInvalid
	}
	if at < s.At || !isTime(at) {
		return nil, api.ErrRange
	}
	var kinds []int
	for kind := api.EWind; kind <= api.EFlag; kind++ {
		if _, e := Next(x, s, api.Event{At: at, Kind: kind}); e == api.OK {
			kinds = append(kinds, kind)
		}
	}
	return kinds, api.OK
}

// states are those after each event of a log, and at last, if an event has an error, no state with this error.
func states(x api.Mast, l []api.Event) iter.Seq2[api.Ball, api.Errno] {
	return func(yield func(api.Ball, api.Errno) bool) {
		r, s := rulesOf(x), api.Ball{}
		for _, event := range l {
			var e api.Errno
			s, e = r.next(s, event)
			if !yield(s, e) || e != api.OK {
				return
			}
		}
	}
}

// next returns the state after an event, or the event's error.
func (r rules) next(s api.Ball, e api.Event) (api.Ball, api.Errno) {
	if !isEvent(e) || e.At < s.At {
		return api.Ball{}, api.ErrRange
	}
	if !r[e.Kind].allows(s, e.At) {
		return api.Ball{}, api.ErrState
	}
	s = r[e.Kind].does(s, e.N)
	s.At = e.At
	return s, api.OK
}

func isState(s api.Ball) bool {
	return s.Place >= down && s.Place <= stuck && isWind(s.Wind) && isTime(s.At)
}

// isEvent reports whether an event's numbers are in their ranges, wherever it stands.
func isEvent(e api.Event) bool {
	if !isTime(e.At) || e.Kind < api.EWind || e.Kind > api.EFlag {
		return false
	}
	return e.N == 0 || e.Kind == api.EWind && isWind(e.N)
}

// isBefore reports whether a time is one to raise the ball to half mast for a drop.
func isBefore(x api.Mast, drop, at int) bool {
	return at >= drop-x.Half && at < drop-x.Full
}

func always(api.Ball, int) bool {
	return true
}

func hasNoFlag(s api.Ball, _ int) bool {
	return !s.Flag
}

func is(place int) func(api.Ball, int) bool {
	return func(s api.Ball, _ int) bool { return s.Place == place }
}

func goesTo(place int) func(api.Ball, int) api.Ball {
	return func(s api.Ball, _ int) api.Ball {
		s.Place = place
		return s
	}
}

func blows(s api.Ball, n int) api.Ball {
	s.Wind = max(s.Wind, n)
	return s
}

// flags puts the flag up and takes the ball down.
func flags(s api.Ball, _ int) api.Ball {
	s.Flag = true
	s.Place = down
	return s
}
