package rate

import (
	"cmp"
	"iter"
)

// steps are the differences of numbers that follow each other, in a list that is not empty.
func steps(l []int) iter.Seq[int] {
	return differences(l[1:], l)
}

// differences are the numbers of a list less those in the same places of another one, which is at least as long.
func differences(l, less []int) iter.Seq[int] {
	return func(yield func(int) bool) {
		for i, n := range l {
			if !yield(n - less[i]) {
				return
			}
		}
	}
}

// ends returns what is least and what is greatest, or zero values of nothing.
func ends[T cmp.Ordered](l iter.Seq[T]) (least, greatest T) {
	first := true
	for x := range l {
		if first {
			least, greatest, first = x, x, false
		}
		least, greatest = min(least, x), max(greatest, x)
	}
	return least, greatest
}

// within reports whether n is from -most to most.
func within(n, most int) bool {
	return n >= -most && n <= most
}

func size(n int) int {
	return max(n, -n)
}
