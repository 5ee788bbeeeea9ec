package gun

import (
	"sort"

	"noongun/api"
)

const (
	maxRoot = 1000000000
	maxRing = 200000 // metres
	maxLag  = 1000000
)

// Root returns the greatest whole number whose square is at most n.
func Root(n int) (int, api.Errno) {
	if n < 0 || n > maxRoot*maxRoot {
		return 0, api.ErrRange
	}
	return root(n), api.OK
}

// Distance returns the distance of two places in millimetres, rounded down and rounded up.
func Distance(p, q api.Point) (lo, hi int, e api.Errno) {
	if !arePlaces(p, q) {
		return 0, 0, api.ErrRange
	}
	lo, hi = distance(p, q)
	return lo, hi, api.OK
}

// Ring returns the least and the greatest distance at which a lag can be heard.
func Ring(a api.Air, gun api.Point, lag int) (least, most int, e api.Errno) {
	if !ValidAir(a) {
		return 0, 0, api.ErrInvalid
	}
	if !arePlaces(gun) || !isLag(lag) {
		return 0, 0, api.ErrRange
	}
	least = metresUntil(a, func(s api.Span) bool { return s.Hi >= lag })
	most = metresUntil(a, func(s api.Span) bool { return s.Lo > lag }) - 1
	if least > most {
		return 0, 0, api.ErrNone
	}
	return least, most, api.OK
}

// metresUntil returns the least distance whose lag is as asked, or one more than maxRing. What is asked must be so at all greater distances too.
func metresUntil(a api.Air, asked func(lag api.Span) bool) int {
	return sort.Search(maxRing+1, func(d int) bool {
		return asked(lagOver(a, d*thousand, d*thousand))
	})
}

// root halves the numbers that the root can be, until one is left.
func root(n int) int {
	least, beyond := 0, maxRoot+1
halving:
	for {
		middle := (least + beyond) / 2
		switch {
		case middle == least:
			break halving
		case middle*middle <= n:
			least = middle
		default:
			beyond = middle
		}
	}
	return least
}

// distance is Distance of what are known to be places.
func distance(p, q api.Point) (lo, hi int) {
	n := squared(p, q) * thousand * thousand
	lo = root(n)
	if lo*lo == n {
		return lo, lo
	}
	return lo, lo + 1
}

// squared returns the squared distance of two places.
func squared(p, q api.Point) int {
	x, y := p.X-q.X, p.Y-q.Y
	return x*x + y*y
}

func arePlaces(l ...api.Point) bool {
	for _, p := range l {
		if !isCoordinate(p.X) || !isCoordinate(p.Y) {
			return false
		}
	}
	return true
}

func isCoordinate(n int) bool {
	return n >= -api.MaxMetres && n <= api.MaxMetres
}

func isLag(n int) bool {
	return n >= 0 && n <= maxLag
}
