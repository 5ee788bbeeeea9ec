package gun

import (
	"slices"

	"noongun/api"
	"noongun/span"
)

// ValidShots reports whether l has shots, not too many, and all are valid.
func ValidShots(l []api.Shot) bool {
	if len(l) < 1 || len(l) > api.MaxGuns {
		return false
	}
	for _, s := range l {
		if !isShot(s) {
			return false
		}
	}
	return true
}

// Suits reports whether a place suits all shots.
func Suits(a api.Air, l []api.Shot, at api.Point) (bool, api.Errno) {
	if !ValidAir(a) || !ValidShots(l) {
		return false, api.ErrInvalid
	}
	if !arePlaces(at) {
		return false, api.ErrRange
	}
	return suits(a, l, at), api.OK
}

// Where returns the places of a box's grid that suit all shots.
func Where(a api.Air, l []api.Shot, lo, hi api.Point, step int) ([]api.Point, api.Errno) {
	if !ValidAir(a) || !ValidShots(l) {
		return nil, api.ErrInvalid
	}
	b := box{lo, hi}
	if !b.valid() || step < 1 || step > maxStep {
		return nil, api.ErrRange
	}
	if b.count(step) > maxGrid {
		return nil, api.ErrLimit
	}
	var found []api.Point
	for p := range b.grid(step) {
		if suits(a, l, p) {
			found = append(found, p)
		}
	}
	return found, api.OK
}

// Excluded reports whether surely no place of a box suits all shots.
func Excluded(a api.Air, l []api.Shot, lo, hi api.Point) (bool, api.Errno) {
	if !ValidAir(a) || !ValidShots(l) {
		return false, api.ErrInvalid
	}
	b := box{lo, hi}
	if !b.valid() {
		return false, api.ErrRange
	}
	return slices.ContainsFunc(l, func(s api.Shot) bool { return !overlap(b.lags(a, s.Gun), s.Lag) }), api.OK
}

// Mirrored returns the shots with east and west exchanged.
func Mirrored(l []api.Shot) ([]api.Shot, api.Errno) {
	if !ValidShots(l) {
		return nil, api.ErrInvalid
	}
	m := slices.Clone(l)
	for i := range m {
		m[i].Gun.X = -m[i].Gun.X
	}
	return m, api.OK
}

func isShot(s api.Shot) bool {
	return arePlaces(s.Gun) && span.ValidSpan(s.Lag) && isLag(s.Lag.Lo) && isLag(s.Lag.Hi)
}

// suits is Suits of what is known to be valid.
func suits(a api.Air, l []api.Shot, at api.Point) bool {
	for _, s := range l {
		if !overlap(lagOf(a, s.Gun, at), s.Lag) {
			return false
		}
	}
	return true
}

// overlap reports whether two spans have a number in common.
func overlap(a, b api.Span) bool {
	_, e := span.Meet(a, b)
	return e == api.OK
}
