package gun

import (
	"iter"

	"noongun/api"
)

const (
	maxStep = 10000
	maxGrid = 10000 // places
)

// box is all places between its lower left one and its upper right one.
type box struct{ lo, hi api.Point }

func (b box) valid() bool {
	return arePlaces(b.lo, b.hi) && b.lo.X <= b.hi.X && b.lo.Y <= b.hi.Y
}

// count returns how many places a grid has.
func (b box) count(step int) int {
	return ((b.hi.X-b.lo.X)/step + 1) * ((b.hi.Y-b.lo.Y)/step + 1)
}

// grid are the places of a grid, row by row.
func (b box) grid(step int) iter.Seq[api.Point] {
	return func(yield func(api.Point) bool) {
		for y := b.lo.Y; y <= b.hi.Y; y += step {
			for x := b.lo.X; x <= b.hi.X; x += step {
				if !yield(api.Point{X: x, Y: y}) {
					return
				}
			}
		}
	}
}

// lags returns the span that has the lags of all places of the box. No place has a lesser Lo than the nearest one, and none a greater Hi than the farthest one.
func (b box) lags(a api.Air, gun api.Point) api.Span {
	return api.Span{Lo: lagOf(a, gun, b.nearest(gun)).Lo, Hi: lagOf(a, gun, b.farthest(gun)).Hi}
}

func (b box) nearest(gun api.Point) api.Point {
	return api.Point{X: min(max(gun.X, b.lo.X), b.hi.X), Y: min(max(gun.Y, b.lo.Y), b.hi.Y)}
}

// farthest returns a corner. Either coordinate can be chosen by itself, since a squared distance is a sum of both of theirs.
func (b box) farthest(gun api.Point) api.Point {
	return api.Point{X: farther(gun.X, b.lo.X, b.hi.X), Y: farther(gun.Y, b.lo.Y, b.hi.Y)}
}

// farther returns that end of lo..hi which n is farther from.
func farther(n, lo, hi int) int {
	if n-lo > hi-n {
		return lo
	}
	return hi
}
