package ledger_test

import (
	"math"
	"slices"
	"testing"

	"noongun/api"
	"noongun/ledger"
	"noongun/span"
)

func TestExample(t *testing.T) {
	l := example()
	if off, e := ledger.Off(l, 5); off != 70 || e != api.OK {
		t.Error("Off", off, e)
	}
	if days, e := ledger.Unfound(l); !slices.Equal(days, []int{6}) || e != api.OK {
		t.Error("Unfound", days, e)
	}
	if indexes, e := ledger.Corrections(l); !slices.Equal(indexes, []int{3}) || e != api.OK {
		t.Error("Corrections", indexes, e)
	}
	if n, e := ledger.Said(l, 5); n != 100 || e != api.OK {
		t.Error("Said", n, e)
	}
	if n, e := ledger.Found(l, 5); n != 170 || e != api.OK {
		t.Error("Found", n, e)
	}
	if days, e := ledger.Days(l); !slices.Equal(days, []int{5}) || e != api.OK {
		t.Error("Days", days, e)
	}
}

func TestValid(t *testing.T) {
	for _, l := range [][]api.Entry{
		nil, {}, {{}}, example(), full(), {said(0, -api.Day)}, {found(0, api.Day)}, {said(lastDay, api.Day)}, {found(lastDay, -api.Day)}, {said(9, 1), said(3, 1), said(9, 1)},
	} {
		if !ledger.Valid(l) {
			t.Error(l)
		}
	}
	for _, l := range badLists() {
		if ledger.Valid(l) {
			t.Error(len(l), l[0], l[len(l)-1])
		}
	}
	for _, day := range extremes {
		for _, n := range extremes {
			for _, l := range [][]api.Entry{{said(day, n)}, {found(day, n)}, append(example(), found(day, n))} {
				if ledger.Valid(l) != isValid(l) {
					t.Error(l)
				}
			}
		}
	}
}

// The ledger's days are those of the calendar of layer 1.
func TestDaysOfTheCalendar(t *testing.T) {
	for _, day := range extremes {
		_, e := span.DateOf(day)
		if ledger.Valid([]api.Entry{said(day, 0)}) != (e == api.OK) {
			t.Error(day)
		}
	}
}

// checkWhatCounts compares what days have with the chapter's words.
func checkWhatCounts(t *testing.T, l []api.Entry) {
	t.Helper()
	var unfound []int
	for _, day := range daysAround(l) {
		was, isSaid := lastOf(l, day, false)
		is, isFound := lastOf(l, day, true)
		off, both := offOf(l, day)
		if isSaid && !isFound {
			unfound = append(unfound, day)
		}
		if n, e := ledger.Said(l, day); n != was || e != errnoOf(isSaid) {
			t.Fatal("Said", l, day, n, e)
		}
		if n, e := ledger.Found(l, day); n != is || e != errnoOf(isFound) {
			t.Fatal("Found", l, day, n, e)
		}
		if n, e := ledger.Off(l, day); n != off || e != errnoOf(both) {
			t.Fatal("Off", l, day, n, e)
		}
	}
	if days, e := ledger.Days(l); !slices.Equal(days, offDays(l)) || e != api.OK {
		t.Fatal("Days", l, days, e)
	}
	if days, e := ledger.Unfound(l); !slices.Equal(days, unfound) || e != api.OK {
		t.Fatal("Unfound", l, days, e)
	}
	var corrections []int
	for i, x := range l {
		if _, before := lastOf(l[:i], x.Day, x.Found); before {
			corrections = append(corrections, i)
		}
	}
	if indexes, e := ledger.Corrections(l); !slices.Equal(indexes, corrections) || e != api.OK {
		t.Fatal("Corrections", l, indexes, e)
	}
}

// 9.1
func TestWhatCounts(t *testing.T) {
	for _, l := range shortLists(4) {
		checkWhatCounts(t, l)
	}
	r := random()
	for range 1000 {
		checkWhatCounts(t, anyEntries(r, r.IntN(40)))
	}
}

func TestWhatCountsOfMany(t *testing.T) {
	checkWhatCounts(t, full())
	var l []api.Entry
	for i := range 500 { // from the last day on down, so that no order is that of the entries
		l = append(l, found(lastDay-300*i, i), said(lastDay-300*i, -i))
	}
	checkWhatCounts(t, l)
	checkWhatCounts(t, slices.Repeat([]api.Entry{said(3, 1), found(3, 2)}, 500))
}

// An off may be beyond Day.
func TestGreatOffs(t *testing.T) {
	l := []api.Entry{said(0, -api.Day), found(0, api.Day), said(lastDay, api.Day), found(lastDay, -api.Day)}
	if off, e := ledger.Off(l, 0); off != 2*api.Day || e != api.OK {
		t.Error(off, e)
	}
	if off, e := ledger.Off(l, lastDay); off != -2*api.Day || e != api.OK {
		t.Error(off, e)
	}
}

func TestNothingIsThere(t *testing.T) {
	for _, l := range [][]api.Entry{nil, {}} {
		checkWhatCounts(t, l)
	}
	for _, day := range []int{4, 7, 0, lastDay} {
		for _, call := range []func([]api.Entry, int) (int, api.Errno){ledger.Said, ledger.Found, ledger.Off} {
			if n, e := call(example(), day); n != 0 || e != api.ErrNone {
				t.Error(day, n, e)
			}
		}
	}
	if n, e := ledger.Found(example(), 6); n != 0 || e != api.ErrNone {
		t.Error("not found", n, e)
	}
	if n, e := ledger.Said([]api.Entry{found(6, 1)}, 6); n != 0 || e != api.ErrNone {
		t.Error("not said", n, e)
	}
	if days, e := ledger.Unfound([]api.Entry{found(6, 1)}); len(days) != 0 || e != api.OK {
		t.Error("found, but not said", days, e)
	}
}

func TestErrorsOfWhatCounts(t *testing.T) {
	for _, call := range []func([]api.Entry, int) (int, api.Errno){ledger.Said, ledger.Found, ledger.Off} {
		for _, l := range badLists() {
			for _, day := range []int{5, -1, lastDay + 1} {
				if n, e := call(l, day); n != 0 || e != api.ErrInvalid {
					t.Error(len(l), day, n, e)
				}
			}
		}
		for _, day := range []int{math.MinInt, -1, lastDay + 1, math.MaxInt} {
			for _, l := range [][]api.Entry{nil, example()} {
				if n, e := call(l, day); n != 0 || e != api.ErrRange {
					t.Error(day, n, e)
				}
			}
		}
	}
	for _, call := range []func([]api.Entry) ([]int, api.Errno){ledger.Days, ledger.Unfound, ledger.Corrections} {
		for _, l := range badLists() {
			if list, e := call(l); len(list) != 0 || e != api.ErrInvalid {
				t.Error(len(l), list, e)
			}
		}
	}
}
