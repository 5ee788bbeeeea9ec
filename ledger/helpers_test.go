package ledger_test

import (
	"math"
	"math/rand/v2"
	"slices"

	"noongun/api"
)

const lastDay = 182985

// The least and the greatest int, and numbers on both sides of each limit.
var extremes = []int{
	math.MinInt, math.MinInt + 1, -2*api.Day - 1, -2 * api.Day, -api.Day - 1, -api.Day, -lastDay - 1, -lastDay, -2, -1, 0, 1, 2, 5, 6, 999, 1000, 1001,
	lastDay - 1, lastDay, lastDay + 1, 999999, 1000000, 1000001, api.Day - 1, api.Day, api.Day + 1, 2 * api.Day, 2*api.Day + 1, 1 << 62, math.MaxInt - 1, math.MaxInt,
}

func random() *rand.Rand {
	return rand.New(rand.NewPCG(1833, 1861))
}

func said(day, n int) api.Entry {
	return api.Entry{Day: day, Error: n}
}

func found(day, n int) api.Entry {
	return api.Entry{Day: day, Found: true, Error: n}
}

// example are the entries of the chapter's example.
func example() []api.Entry {
	return []api.Entry{said(5, 100), found(5, 180), said(6, 90), found(5, 170)}
}

// withOffs has an off for each day from a first one on.
func withOffs(first int, offs ...int) []api.Entry {
	var l []api.Entry
	for i, off := range offs {
		l = append(l, said(first+i, -off/2), found(first+i, off-off/2))
	}
	return l
}

// anyEntries has entries of ten days that follow each other, in any order.
func anyEntries(r *rand.Rand, count int) []api.Entry {
	first := []int{0, 1, 90000, lastDay - 9}[r.IntN(4)]
	errors := []int{-api.Day, -api.Day + 1, -2, -1, 0, 1, 2, 3, api.Day - 1, api.Day}
	if r.IntN(2) == 0 {
		errors = errors[2:8] // so that many offs are the same
	}
	var l []api.Entry
	for range count {
		l = append(l, api.Entry{Day: first + r.IntN(10), Found: r.IntN(2) == 0, Error: errors[r.IntN(len(errors))]})
	}
	return l
}

// daysAround are the days of entries and those beside them, as far as they are in the calendar, and its ends, in ascending order.
func daysAround(l []api.Entry) []int {
	days := []int{0, lastDay}
	for _, x := range l {
		for day := max(x.Day-1, 0); day <= min(x.Day+1, lastDay); day++ {
			days = append(days, day)
		}
	}
	slices.Sort(days)
	return slices.Compact(days)
}

// shortLists are all lists of up to a number of entries of two days, with two errors.
func shortLists(most int) [][]api.Entry {
	lists := [][]api.Entry{nil}
	for at := 0; at < len(lists); at++ {
		if len(lists[at]) == most {
			break
		}
		for n := range 8 {
			x := api.Entry{Day: 7 + n%2, Found: n/2%2 == 1, Error: 3 * (n / 4)}
			lists = append(lists, append(slices.Clone(lists[at]), x))
		}
	}
	return lists
}

// full are as many entries as may be.
func full() []api.Entry {
	var l []api.Entry
	for i := range api.MaxEntries {
		l = append(l, api.Entry{Day: i / 3, Found: i%3 > 0, Error: i})
	}
	return l
}

func badEntries() []api.Entry {
	var l []api.Entry
	for _, day := range []int{math.MinInt, -lastDay, -1, lastDay + 1, lastDay + 2, math.MaxInt} {
		l = append(l, said(day, 0), found(day, 0))
	}
	for _, n := range []int{math.MinInt, -api.Day - 1, api.Day + 1, math.MaxInt} {
		l = append(l, said(0, n), found(lastDay, n))
	}
	return l
}

// badLists are lists of entries that are not valid.
func badLists() [][]api.Entry {
	l := [][]api.Entry{append(full(), said(0, 0)), append(full(), full()...), make([]api.Entry, 100000)}
	for _, x := range badEntries() {
		l = append(l, []api.Entry{x}, append(example(), x), append([]api.Entry{x}, example()...))
	}
	return l
}

// isValid, lastOf and offOf are by the letter of the chapter.
func isValid(l []api.Entry) bool {
	for _, x := range l {
		if x.Day < 0 || x.Day > 182985 || x.Error < -86400000 || x.Error > 86400000 {
			return false
		}
	}
	return len(l) <= 1000
}

func lastOf(l []api.Entry, day int, found bool) (int, bool) {
	for _, x := range slices.Backward(l) {
		if x.Day == day && x.Found == found {
			return x.Error, true
		}
	}
	return 0, false
}

func offOf(l []api.Entry, day int) (int, bool) {
	was, isSaid := lastOf(l, day, false)
	is, isFound := lastOf(l, day, true)
	if !isSaid || !isFound {
		return 0, false
	}
	return is - was, true
}

// offDays are the days that have an off, by trying all that can have one.
func offDays(l []api.Entry) []int {
	return slices.DeleteFunc(daysAround(l), func(day int) bool {
		_, there := offOf(l, day)
		return !there
	})
}

func unsigned(n int) int {
	if n < 0 {
		return -n
	}
	return n
}

// errnoOf is OK if something is there, and ErrNone if not.
func errnoOf(there bool) api.Errno {
	if there {
		return api.OK
	}
	return api.ErrNone
}
