package transit

import (
	"iter"
	"sort"

	"noongun/api"
	"noongun/span"
)

// maxTightest is the greatest Error that Tightest tries.
const maxTightest = 1000000

// strip is what a transit says of the truth: the clock error and shift thousandths of the azimuth make up the difference, but for the tube's error. In the plane of clock errors and azimuths that is a strip.
type strip struct{ shift, difference int }

// bound says that a number is from lo to hi.
type bound struct{ lo, hi fraction }

// boundOf tells what two strips with a tube's error say of a number, or false if they do not bound it.
type boundOf func(s, t strip, width int) (bound, bool)

// Agree reports whether there is a truth for all transits.
func Agree(x api.Tube, l []api.Transit) (bool, api.Errno) {
	strips, e := stripsOf(x, l)
	if e != api.OK {
		return false, e
	}
	return agree(strips, x.Error), api.OK
}

// Reach returns the reach of the clock error.
func Reach(x api.Tube, l []api.Transit) (api.Reach, api.Errno) {
	return reach(x, l, clockBound)
}

// Azimuth returns the reach of the azimuth.
func Azimuth(x api.Tube, l []api.Transit) (api.Reach, api.Errno) {
	return reach(x, l, azimuthBound)
}

// Suits reports whether the clock error e and the azimuth a are a truth for all transits.
func Suits(x api.Tube, l []api.Transit, e, a api.Ratio) (bool, api.Errno) {
	if !span.ValidRatio(e) || !span.ValidRatio(a) {
		return false, api.ErrInvalid
	}
	strips, err := stripsOf(x, l)
	if err != api.OK {
		return false, err
	}
	for _, s := range strips {
		byAzimuth := fraction{s.shift * a.N, thousand * a.D}
		least := fraction{(s.difference-x.Error)*e.D - e.N, e.D}
		most := fraction{(s.difference+x.Error)*e.D - e.N, e.D}
		if byAzimuth.below(least) || byAzimuth.above(most) {
			return false, api.OK
		}
	}
	return true, api.OK
}

// Tightest returns the least Error of the tube with which all transits agree.
func Tightest(x api.Tube, l []api.Transit) (int, api.Errno) {
	strips, e := stripsOf(x, l)
	if e != api.OK {
		return 0, e
	}
	width := sort.Search(maxTightest+1, func(width int) bool { return agree(strips, width) })
	if width > maxTightest {
		return 0, api.ErrRange
	}
	return width, api.OK
}

// stripsOf returns what each transit of a list says, or the list's error.
func stripsOf(x api.Tube, l []api.Transit) ([]strip, api.Errno) {
	if !isCount(len(l)) {
		return nil, api.ErrInvalid
	}
	for _, t := range l { // one that does not fit (none does, if the tube is not valid) comes before one that was missed, wherever they stand
		if !Fits(x, t) {
			return nil, api.ErrInvalid
		}
	}
	strips := make([]strip, len(l))
	for i, t := range l {
		difference, e := Difference(x, t)
		if e != api.OK {
			return nil, e
		}
		strips[i] = strip{t.Star.Shift, difference}
	}
	return strips, api.OK
}

// pairs are all pairs of strips, those of a strip with itself too.
func pairs(l []strip) iter.Seq2[strip, strip] {
	return func(yield func(s, t strip) bool) {
		for i, s := range l {
			for _, t := range l[i:] {
				if !yield(s, t) {
					return
				}
			}
		}
	}
}

// bounds are those that pairs of strips set to a number. No more than two strips are needed for any bound: they are what is left when the other number is taken out of all of them.
func bounds(l []strip, width int, of boundOf) iter.Seq[bound] {
	return func(yield func(bound) bool) {
		for s, t := range pairs(l) {
			b, bounded := of(s, t, width)
			if bounded && !yield(b) {
				return
			}
		}
	}
}

// clockBound returns the clock errors that two strips have in common, or false if they bound none. What two strips of one shift have in common, each says by itself.
func clockBound(s, t strip, width int) (bound, bool) {
	if s == t && s.shift == 0 {
		return around(s.difference, width, 1), true
	}
	if s.shift == t.shift {
		return bound{}, false
	}
	if s.shift > t.shift {
		s, t = t, s
	}
	middle := s.difference*t.shift - t.difference*s.shift
	return around(middle, width*(size(s.shift)+size(t.shift)), t.shift-s.shift), true
}

// azimuthBound returns the azimuths that two strips have in common, or false if they bound none.
func azimuthBound(s, t strip, width int) (bound, bool) {
	if s.shift == t.shift {
		return bound{}, false
	}
	if s.shift > t.shift {
		s, t = t, s
	}
	return around(thousand*(t.difference-s.difference), 2*thousand*width, t.shift-s.shift), true
}

// around returns the bound from (middle - width) / by to (middle + width) / by.
func around(middle, width, by int) bound {
	return bound{fraction{middle - width, by}, fraction{middle + width, by}}
}

// common returns what all bounds have in common (its ends are out of order if that is nothing), or false if there is no bound.
func common(l []strip, width int, of boundOf) (all bound, bounded bool) {
	for b := range bounds(l, width, of) {
		if !bounded {
			all, bounded = b, true
		}
		all.lo = kept(all.lo, b.lo, fraction.above)
		all.hi = kept(all.hi, b.hi, fraction.below)
	}
	return all, bounded
}

// kept returns which of two ends is kept: the old one, if the new one is not better.
func kept[T any](old, next T, better func(a, b T) bool) T {
	if better(next, old) {
		return next
	}
	return old
}

// agree reports whether strips with a tube's error have a truth in common. Strips of one shift lie side by side, so no azimuth helps them.
func agree(l []strip, width int) bool {
	for s, t := range pairs(l) {
		if s.shift == t.shift && size(s.difference-t.difference) > 2*width {
			return false
		}
	}
	all, bounded := common(l, width, azimuthBound)
	return !bounded || !all.lo.above(all.hi)
}

// reach returns the reach of the number that pairs of strips bound by a function.
func reach(x api.Tube, l []api.Transit, of boundOf) (api.Reach, api.Errno) {
	strips, e := stripsOf(x, l)
	if e != api.OK {
		return api.Reach{}, e
	}
	if !agree(strips, x.Error) {
		return api.Reach{}, api.ErrState
	}
	all, bounded := common(strips, x.Error, of)
	if !bounded {
		return api.Reach{}, api.ErrNone
	}
	return reachOf(all.lo, all.hi)
}

func size(n int) int {
	return max(n, -n)
}
