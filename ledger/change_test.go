package ledger_test

import (
	"math"
	"slices"
	"testing"

	"noongun/api"
	"noongun/ledger"
)

// whatCounts is what calls tell of a day.
func whatCounts(l []api.Entry, day int) [6]int {
	was, noneSaid := ledger.Said(l, day)
	is, noneFound := ledger.Found(l, day)
	off, none := ledger.Off(l, day)
	return [6]int{was, is, off, int(noneSaid), int(noneFound), int(none)}
}

// P9.2
func TestLast(t *testing.T) {
	lists := append(shortLists(5), full())
	r := random()
	for range 500 {
		lists = append(lists, anyEntries(r, r.IntN(60)))
	}
	for _, l := range lists {
		var want []api.Entry
		for _, day := range daysAround(l) {
			for _, kind := range []bool{false, true} {
				if n, there := lastOf(l, day, kind); there {
					want = append(want, api.Entry{Day: day, Found: kind, Error: n})
				}
			}
		}
		last, e := ledger.Last(l)
		if !slices.Equal(last, want) || e != api.OK {
			t.Fatal(l, last, e)
		}
		if indexes, e := ledger.Corrections(last); len(indexes) != 0 || e != api.OK {
			t.Fatal(l, indexes, e)
		}
		for _, day := range daysAround(l) {
			if whatCounts(l, day) != whatCounts(last, day) {
				t.Fatal(l, last, day)
			}
		}
		if again, e := ledger.Last(last); !slices.Equal(again, last) || e != api.OK {
			t.Fatal(last, again, e)
		}
	}
}

// P9.2
func TestAnEntryChangesNoOtherDay(t *testing.T) {
	r := random()
	for range 500 {
		l := anyEntries(r, r.IntN(40))
		x := anyEntries(r, 1)[0]
		more, e := ledger.Added(l, x)
		if e != api.OK {
			t.Fatal(l, x, e)
		}
		for _, day := range daysAround(more) {
			if day != x.Day && whatCounts(l, day) != whatCounts(more, day) {
				t.Fatal(l, x, day)
			}
		}
		if n, _ := lastOf(more, x.Day, x.Found); n != x.Error {
			t.Fatal(more, x)
		}
	}
}

func TestAdded(t *testing.T) {
	for _, l := range [][]api.Entry{nil, example(), full()[:999]} {
		for _, x := range []api.Entry{{}, said(5, 100), found(lastDay, -api.Day), found(0, api.Day)} {
			if got, e := ledger.Added(l, x); !slices.Equal(got, append(slices.Clone(l), x)) || e != api.OK {
				t.Error(len(l), x, len(got), e)
			}
		}
	}
	if got, e := ledger.Added(full(), said(5, 1)); len(got) != 0 || e != api.ErrLimit {
		t.Error("one too many", len(got), e)
	}
	for _, x := range badEntries() {
		for _, l := range [][]api.Entry{nil, example(), full()} {
			if got, e := ledger.Added(l, x); len(got) != 0 || e != api.ErrInvalid {
				t.Error(len(l), x, len(got), e)
			}
		}
	}
	for _, l := range badLists() {
		if got, e := ledger.Added(l, said(5, 1)); len(got) != 0 || e != api.ErrInvalid {
			t.Error(len(l), len(got), e)
		}
	}
}

// P9.5
func TestMerged(t *testing.T) {
	lists := shortLists(2)
	r := random()
	for range 20 {
		lists = append(lists, anyEntries(r, r.IntN(40)))
	}
	for _, a := range lists {
		for _, b := range lists {
			both, e := ledger.Merged(a, b)
			if !slices.Equal(both, append(slices.Clone(a), b...)) || e != api.OK {
				t.Fatal(a, b, both, e)
			}
			ofA, _ := ledger.Corrections(a)
			ofB, _ := ledger.Corrections(b)
			if indexes, e := ledger.Corrections(both); len(indexes) < len(ofA)+len(ofB) || e != api.OK {
				t.Fatal(a, b, indexes, e)
			}
		}
	}
}

func TestMergedAtTheLimit(t *testing.T) {
	for _, c := range []struct {
		a, b int
		e    api.Errno
	}{{1000, 0, api.OK}, {0, 1000, api.OK}, {999, 1, api.OK}, {500, 500, api.OK}, {1000, 1, api.ErrLimit}, {1, 1000, api.ErrLimit}, {501, 500, api.ErrLimit}, {1000, 1000, api.ErrLimit}} {
		a, b := full()[:c.a], full()[:c.b]
		var want []api.Entry
		if c.e == api.OK {
			want = append(slices.Clone(a), b...)
		}
		if got, e := ledger.Merged(a, b); !slices.Equal(got, want) || e != c.e {
			t.Error(c, len(got), e)
		}
	}
	for _, bad := range badLists() {
		for _, l := range [][]api.Entry{nil, example(), full(), bad} {
			for _, pair := range [][2][]api.Entry{{bad, l}, {l, bad}} {
				if got, e := ledger.Merged(pair[0], pair[1]); len(got) != 0 || e != api.ErrInvalid {
					t.Error(len(pair[0]), len(pair[1]), len(got), e)
				}
			}
		}
	}
}

// P9.5
func TestShifted(t *testing.T) {
	r := random()
	met := map[api.Errno]int{}
	for range 1000 {
		l := anyEntries(r, r.IntN(5))
		by := []int{-lastDay, -lastDay + 1, -lastDay + 9, -90000, -10, -1, 0, 1, 10, 90000, lastDay - 9, lastDay - 1, lastDay}[r.IntN(13)]
		want, wantError := []api.Entry(nil), api.OK
		for _, x := range l {
			want = append(want, api.Entry{Day: x.Day + by, Found: x.Found, Error: x.Error})
		}
		if !isValid(want) {
			want, wantError = nil, api.ErrLimit
		}
		got, e := ledger.Shifted(l, by)
		if !slices.Equal(got, want) || e != wantError {
			t.Fatal(l, by, got, e)
		}
		met[e]++
		if e != api.OK {
			continue
		}
		if back, e := ledger.Shifted(got, -by); !slices.Equal(back, l) || e != api.OK {
			t.Fatal(l, by, back, e)
		}
	}
	if met[api.OK] < 100 || met[api.ErrLimit] < 100 {
		t.Error("hardly tried", met)
	}
}

func TestShiftedToTheEnds(t *testing.T) {
	for _, c := range []struct {
		day, by int
		e       api.Errno
	}{
		{0, lastDay, api.OK}, {lastDay, -lastDay, api.OK}, {1, lastDay, api.ErrLimit}, {lastDay - 1, -lastDay, api.ErrLimit}, {0, -1, api.ErrLimit}, {lastDay, 1, api.ErrLimit}, {5, 0, api.OK}, {5, -5, api.OK}, {5, -6, api.ErrLimit},
		{5, lastDay + 1, api.ErrRange}, {5, -lastDay - 1, api.ErrRange}, {5, math.MinInt, api.ErrRange}, {5, math.MaxInt, api.ErrRange},
	} {
		l := []api.Entry{found(c.day, 3)}
		want := []api.Entry{found(c.day+c.by, 3)}
		if c.e != api.OK {
			want = nil
		}
		if got, e := ledger.Shifted(l, c.by); !slices.Equal(got, want) || e != c.e {
			t.Error(c, got, e)
		}
	}
	for _, by := range []int{-lastDay, 0, lastDay} {
		if got, e := ledger.Shifted(nil, by); len(got) != 0 || e != api.OK {
			t.Error("nothing", by, got, e)
		}
	}
	for _, l := range badLists() {
		for _, by := range []int{0, 1, lastDay + 1, math.MinInt} {
			if got, e := ledger.Shifted(l, by); len(got) != 0 || e != api.ErrInvalid {
				t.Error(len(l), by, len(got), e)
			}
		}
		if got, e := ledger.Last(l); len(got) != 0 || e != api.ErrInvalid {
			t.Error("Last", len(l), len(got), e)
		}
	}
}
