package sight

import (
	"slices"

	"noongun/api"
)

// Error returns the bounds of a clock's error at a time.
func Error(x api.Net, clock, at int) (api.Span, api.Errno) {
	return Between(x, clock, sky, at)
}

// Between returns the bounds of the error of a less that of b at a time.
func Between(x api.Net, a, b, at int) (api.Span, api.Errno) {
	if !Valid(x) {
		return api.Span{}, api.ErrInvalid
	}
	if !isClock(x, a) || !isClock(x, b) {
		return api.Span{}, api.ErrName
	}
	if !isTime(at) {
		return api.Span{}, api.ErrRange
	}
	p, q := pointOf(a, at), pointOf(b, at)
	c := chartOf(x, p, q)
	if c.conflict() != nil {
		return api.Span{}, api.ErrState
	}
	s, bounded := c.difference(p, q)
	if !bounded {
		return api.Span{}, api.ErrNone
	}
	return s, api.OK
}

// Best returns the clock, but for the sky, whose error is known best at a time.
func Best(x api.Net, at int) (int, api.Errno) {
	if !Valid(x) {
		return 0, api.ErrInvalid
	}
	best, least := none, 0
	for clock := sky + 1; clock < len(x.Rates); clock++ {
		width, e := Width(x, clock, at)
		if e == api.ErrNone {
			continue
		}
		if e != api.OK {
			return 0, e
		}
		if best == none || width < least {
			best, least = clock, width
		}
	}
	if best == none {
		return 0, api.ErrNone
	}
	return best, api.OK
}

// Width returns how far apart the bounds of a clock's error are at a time.
func Width(x api.Net, clock, at int) (int, api.Errno) {
	s, e := Error(x, clock, at)
	return s.Hi - s.Lo, e
}

// Implied reports whether the sight i says nothing more than the others.
func Implied(x api.Net, i int) (bool, api.Errno) {
	if !Valid(x) {
		return false, api.ErrInvalid
	}
	if !isSight(x, i) {
		return false, api.ErrName
	}
	if chartOf(x).conflict() != nil {
		return false, api.ErrState
	}
	return implied(x, i), api.OK
}

// Tight returns the net in which each sight says all that is known of its clocks at its time.
func Tight(x api.Net) (api.Net, api.Errno) {
	if !Valid(x) {
		return api.Net{}, api.ErrInvalid
	}
	c := chartOf(x)
	if c.conflict() != nil {
		return api.Net{}, api.ErrState
	}
	x = copied(x)
	for i, s := range x.Sights {
		known, _ := c.difference(ends(s)) // the sight bounds it itself
		x.Sights[i].Lo, x.Sights[i].Hi = known.Lo, known.Hi
	}
	return x, api.OK
}

// Needed returns the indexes of the sights that are left when each one that says nothing more is taken away, from the last one on.
func Needed(x api.Net) ([]int, api.Errno) {
	if !Valid(x) {
		return nil, api.ErrInvalid
	}
	if chartOf(x).conflict() != nil {
		return nil, api.ErrState
	}
	var l []int
	for i := len(x.Sights) - 1; i >= 0; i-- { // all before i are still there, so its index is still i
		if implied(x, i) {
			x = without(x, i)
		} else {
			l = append(l, i)
		}
	}
	slices.Reverse(l)
	return l, api.OK
}

// implied is Implied in a valid net that does not contradict itself.
func implied(x api.Net, i int) bool {
	s := x.Sights[i]
	a, b := ends(s)
	known, bounded := chartOf(without(x, i), a, b).difference(a, b)
	return bounded && s.Lo <= known.Lo && known.Hi <= s.Hi
}

// ends returns the points of a sight's clocks at its time.
func ends(s api.Sight) (a, b point) {
	return pointOf(s.A, s.At), pointOf(s.B, s.At)
}
