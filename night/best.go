package night

import (
	"cmp"
	"slices"

	"noongun/api"
)

// Best returns the best list.
func Best(l []api.Chance, clouds []api.Span, per int) ([]int, api.Errno) {
	if e := check(l, clouds, per); e != api.OK {
		return nil, e
	}
	return first(l, clearOf(l, clouds), per, scale{l}.compare), api.OK
}

// IsBest reports whether a list is the best one.
func IsBest(l []api.Chance, clouds []api.Span, per int, list []int) bool {
	best, e := Best(l, clouds, per)
	return e == api.OK && slices.Equal(best, list)
}

// Most returns the greatest number of chances of a right list.
func Most(l []api.Chance, clouds []api.Span, per int) (int, api.Errno) {
	if e := check(l, clouds, per); e != api.OK {
		return 0, e
	}
	longest := first(l, clearOf(l, clouds), per, func(a, b []int) int { return len(b) - len(a) })
	return len(longest), api.OK
}

// With returns the best one among the right lists that have a chance.
func With(l []api.Chance, clouds []api.Span, per, i int) ([]int, api.Errno) {
	if e := check(l, clouds, per); e != api.OK {
		return nil, e
	}
	if !isIndex(l, i) {
		return nil, api.ErrName
	}
	if !isClear(l[i], clouds) {
		return nil, api.ErrNone
	}
	// A chance that follows one that follows another one follows this, too: no turn is longer than two by a detour.
	// So the chance fits into every right list of those before and behind it, and leaves the lists' order as it is.
	around := slices.DeleteFunc(clearOf(l, clouds), func(j int) bool {
		return !follows(l[j], l[i], per) && !follows(l[i], l[j], per)
	})
	list := append(first(l, around, per, scale{l}.compare), i)
	slices.Sort(list)
	return list, api.OK
}

// scale compares lists of chances.
type scale struct{ chances []api.Chance }

// compare returns a number below 0 if a is better than b, and one above 0 if it is worse.
func (s scale) compare(a, b []int) int {
	return cmp.Or(
		cmp.Compare(worth(s.chances, b), worth(s.chances, a)),
		cmp.Compare(len(a), len(b)),
		slices.Compare(a, b),
	)
}

// first returns the first one of the right lists of some of the chances (in ascending order) when they are compared. One chance more at the end of each of two lists must leave their order as it is.
func first(l []api.Chance, among []int, per int, compare func(a, b []int) int) []int {
	var best []int
	ends := map[int][]int{} // for each chance the first list that it is the last one of
	for at, i := range among {
		end := []int{i}
		for _, j := range among[:at] {
			if !follows(l[j], l[i], per) {
				continue
			}
			if list := append(slices.Clone(ends[j]), i); compare(list, end) < 0 {
				end = list
			}
		}
		ends[i] = end
		if compare(end, best) < 0 {
			best = end
		}
	}
	return best
}
