package transit

import (
	"slices"

	"noongun/api"
)

// enough is how many transits are enough for a contradiction, if there is one: strips are convex, and convex parts of a plane have a point in common if any three of them have.
const enough = 3

// Least returns the smallest set of transits that do not agree.
func Least(x api.Tube, l []api.Transit) ([]int, api.Errno) {
	strips, e := stripsOf(x, l)
	if e != api.OK {
		return nil, e
	}
	for count := 2; count <= enough; count++ { // one transit always agrees
		set := firstSet(len(l), count, func(set []int) bool { return !agree(chosen(strips, set), x.Error) })
		if set != nil {
			return set, api.OK
		}
	}
	return nil, api.ErrNone
}

// Most returns the largest set of transits that agree.
func Most(x api.Tube, l []api.Transit) ([]int, api.Errno) {
	strips, e := stripsOf(x, l)
	if e != api.OK {
		return nil, e
	}
	var set []int
	for count := len(l); set == nil; count-- { // one transit always agrees
		set = firstSet(len(l), count, func(set []int) bool { return agree(chosen(strips, set), x.Error) })
	}
	return set, api.OK
}

// Odd returns the first transit without which the others agree.
func Odd(x api.Tube, l []api.Transit) (int, api.Errno) {
	strips, e := stripsOf(x, l)
	if e != api.OK {
		return 0, e
	}
	if agree(strips, x.Error) {
		return 0, api.ErrState
	}
	for i := range strips {
		if agree(slices.Delete(slices.Clone(strips), i, i+1), x.Error) {
			return i, api.OK
		}
	}
	return 0, api.ErrNone
}

// firstSet returns the first ascending list of count (from 1) numbers below n that is right, or nil.
func firstSet(n, count int, right func(set []int) bool) []int {
	set := make([]int, 0, count)
	var extend func(from int) bool
	extend = func(from int) bool {
		if len(set) == count {
			return right(set)
		}
		for i := from; i < n; i++ {
			set = append(set, i)
			if extend(i + 1) {
				return true
			}
			set = set[:len(set)-1]
		}
		return false
	}
	if !extend(0) {
		return nil
	}
	return set
}

func chosen(l []strip, set []int) []strip {
	part := make([]strip, len(set))
	for i, n := range set {
		part[i] = l[n]
	}
	return part
}
