package sight

import "noongun/api"

// Consistent reports whether a net does not contradict itself.
func Consistent(x api.Net) (bool, api.Errno) {
	if !Valid(x) {
		return false, api.ErrInvalid
	}
	return chartOf(x).conflict() == nil, api.OK
}

// Conflict returns a proof that a net contradicts itself.
func Conflict(x api.Net) ([]int, api.Errno) {
	if !Valid(x) {
		return nil, api.ErrInvalid
	}
	l := chartOf(x).conflict()
	if l == nil {
		return nil, api.ErrNone
	}
	return l, api.OK
}

// Proves reports whether l is a proof that x contradicts itself.
func Proves(x api.Net, l []int) bool {
	if !Valid(x) || len(l) == 0 || !isMark(x, l[len(l)-1]) {
		return false
	}
	_, at, _ := taken(x, l[len(l)-1]) // the list goes round
	sum := 0
	for _, mark := range l {
		if !isMark(x, mark) {
			return false
		}
		from, to, cost := taken(x, mark)
		if from.clock != at.clock {
			return false
		}
		sum += carryBetween(x.Rates, at, from) + cost
		at = to
	}
	return sum < 0
}

func isMark(x api.Net, mark int) bool {
	return mark >= 0 && isSight(x, mark/2)
}
