package ledger_test

import (
	"math"
	"math/big"
	"slices"
	"testing"

	"noongun/api"
	"noongun/ledger"
	"noongun/span"
)

// checkStretch compares Sum, Mean and Rated with the offs of a stretch, one by one.
func checkStretch(t *testing.T, l []api.Entry, from, to int) {
	t.Helper()
	total, count := 0, 0
	for _, day := range offDays(l) {
		if from <= day && day <= to {
			off, _ := offOf(l, day)
			total, count = total+off, count+1
		}
	}
	if n, e := ledger.Sum(l, from, to); n != total || e != api.OK {
		t.Fatal("Sum", l, from, to, n, e)
	}
	want, wantError := api.Ratio{}, api.ErrNone
	if count > 0 {
		want, wantError = quotient(total, count)
	}
	if m, e := ledger.Mean(l, from, to); m != want || e != wantError {
		t.Fatal("Mean", l, from, to, m, e)
	}
	if from == to {
		return
	}
	first, atFirst := offOf(l, from)
	second, atSecond := offOf(l, to)
	wrong := 0
	if atFirst && atSecond {
		wrong = second - first
	}
	if n, e := ledger.Rated(l, from, to); n != wrong || e != errnoOf(atFirst && atSecond) {
		t.Fatal("Rated", l, from, to, n, e)
	}
}

func quotient(total, count int) (api.Ratio, api.Errno) {
	q := big.NewRat(int64(total), int64(count))
	m := api.Ratio{N: int(q.Num().Int64()), D: int(q.Denom().Int64())}
	if m.N < -1000000000 || m.N > 1000000000 || m.D > 1000000000 {
		return api.Ratio{}, api.ErrLimit
	}
	return m, api.OK
}

// checkBound compares Streak, Letters and Fine with all days, one by one.
func checkBound(t *testing.T, l []api.Entry, within int) {
	t.Helper()
	small := func(day int) bool {
		off, there := offOf(l, day)
		return there && unsigned(off) <= within
	}
	var letters []int
	wantFrom, wantLength := 0, 0
	for _, day := range offDays(l) {
		if !small(day) {
			letters = append(letters, day)
		}
		length := 0
		for small(day + length) {
			length++
		}
		if length > wantLength {
			wantFrom, wantLength = day, length
		}
	}
	if from, length, e := ledger.Streak(l, within); from != wantFrom || length != wantLength || e != errnoOf(wantLength > 0) {
		t.Fatal("Streak", l, within, from, length, e)
	}
	if days, e := ledger.Letters(l, within); !slices.Equal(days, letters) || e != api.OK {
		t.Fatal("Letters", l, within, days, e)
	}
	for _, pence := range []int{0, 1, 240, 1000000} {
		if n, e := ledger.Fine(l, within, pence); n != pence*len(letters) || e != api.OK {
			t.Fatal("Fine", l, within, pence, n, e)
		}
	}
}

func checkWorst(t *testing.T, l []api.Entry) {
	t.Helper()
	want, there := 0, false
	for _, day := range offDays(l) {
		off, _ := offOf(l, day)
		before, _ := offOf(l, want)
		if !there || unsigned(off) > unsigned(before) {
			want, there = day, true
		}
	}
	if day, e := ledger.Worst(l); day != want || e != errnoOf(there) {
		t.Fatal("Worst", l, day, e)
	}
}

func checkOffs(t *testing.T, l []api.Entry) {
	t.Helper()
	days := daysAround(l)
	for i, from := range days {
		for _, to := range days[i:] {
			checkStretch(t, l, from, to)
		}
	}
	for _, within := range []int{0, 1, 2, 3, 4, 5, 6, api.Day - 1, api.Day} {
		checkBound(t, l, within)
	}
	checkWorst(t, l)
}

// 9.2 and 9.3
func TestOffs(t *testing.T) {
	for _, l := range shortLists(4) {
		checkOffs(t, l)
	}
	r := random()
	for range 500 {
		checkOffs(t, anyEntries(r, r.IntN(50)))
	}
}

func TestOffsOfMany(t *testing.T) {
	l := full()
	for _, ends := range [][2]int{{0, lastDay}, {0, 0}, {0, 332}, {17, 200}, {332, 333}, {334, lastDay}, {100, 101}} {
		checkStretch(t, l, ends[0], ends[1])
	}
	for _, within := range []int{0, 1, 2, 3, 1000, api.Day} {
		checkBound(t, l, within)
	}
	checkWorst(t, l)
	if n, e := ledger.Sum(withOffs(lastDay-499, slices.Repeat([]int{-2 * api.Day}, 500)...), 0, lastDay); n != -1000*api.Day || e != api.OK {
		t.Error("the greatest Sum", n, e)
	}
}

func TestSumsAndMeans(t *testing.T) {
	l := withOffs(10, 5, -7, 0, 4) // days 10 to 13
	for _, c := range []struct {
		from, to, sum int
		mean          api.Ratio
		e             api.Errno
	}{
		{10, 13, 2, api.Ratio{N: 1, D: 2}, api.OK}, {0, lastDay, 2, api.Ratio{N: 1, D: 2}, api.OK}, {10, 10, 5, api.Ratio{N: 5, D: 1}, api.OK}, {11, 12, -7, api.Ratio{N: -7, D: 2}, api.OK},
		{12, 12, 0, api.Ratio{N: 0, D: 1}, api.OK}, {11, 13, -3, api.Ratio{N: -1, D: 1}, api.OK}, {9, 11, -2, api.Ratio{N: -1, D: 1}, api.OK}, {0, 9, 0, api.Ratio{}, api.ErrNone}, {14, lastDay, 0, api.Ratio{}, api.ErrNone},
	} {
		if n, e := ledger.Sum(l, c.from, c.to); n != c.sum || e != api.OK {
			t.Error("Sum", c, n, e)
		}
		if m, e := ledger.Mean(l, c.from, c.to); m != c.mean || e != c.e {
			t.Error("Mean", c, m, e)
		}
	}
}

// A mean of seven days is within MaxRatio or not, whichever its parts in lowest terms are.
func TestMeansWithoutValidForm(t *testing.T) {
	for _, c := range []struct {
		sum  int
		mean api.Ratio
		e    api.Errno
	}{
		{1000000000, api.Ratio{N: 1000000000, D: 7}, api.OK}, {1000000001, api.Ratio{N: 142857143, D: 1}, api.OK}, {1000000002, api.Ratio{}, api.ErrLimit}, {1209599993, api.Ratio{N: 172799999, D: 1}, api.OK}, {1209599999, api.Ratio{}, api.ErrLimit}, {1209600000, api.Ratio{N: 172800000, D: 1}, api.OK},
	} {
		for _, sign := range []int{1, -1} {
			offs := slices.Repeat([]int{sign * (c.sum / 7)}, 7)
			for i := range c.sum % 7 {
				offs[i] += sign
			}
			m, e := ledger.Mean(withOffs(100, offs...), 100, 106)
			if m.N != sign*c.mean.N || m.D != c.mean.D || e != c.e {
				t.Error(c, sign, m, e)
			}
		}
	}
}

func TestWorst(t *testing.T) {
	for want, l := range map[int][]api.Entry{
		10: withOffs(10, 5), 11: withOffs(10, 5, -7, 0, 7, 6), 13: withOffs(10, 0, 1, 2, -3), 20: withOffs(20, 0, 0), 0: append(withOffs(1, 4), withOffs(0, -4)...), lastDay: append(withOffs(lastDay, -2*api.Day), withOffs(0, 2*api.Day-1)...),
	} {
		if day, e := ledger.Worst(l); day != want || e != api.OK {
			t.Error(l, day, e)
		}
	}
	for _, l := range [][]api.Entry{nil, {said(0, 1)}, {found(0, 1)}, {said(0, 1), found(1, 9)}} {
		if day, e := ledger.Worst(l); day != 0 || e != api.ErrNone {
			t.Error(l, day, e)
		}
	}
}

func TestStreaks(t *testing.T) {
	l := append(withOffs(20, 1, -1, 9, 1, 1, 2, 9, 0, 0, 0), withOffs(0, 0, 3)...) // days 20 to 29, 0 and 1
	for _, c := range []struct{ within, from, length int }{{0, 27, 3}, {1, 27, 3}, {2, 23, 3}, {8, 23, 3}, {9, 20, 10}, {api.Day, 20, 10}} {
		if from, length, e := ledger.Streak(l, c.within); from != c.from || length != c.length || e != api.OK {
			t.Error(c, from, length, e)
		}
	}
	ends := append(withOffs(lastDay-1, 5, 5), withOffs(0, -5, 6)...)
	for _, c := range []struct{ within, from, length int }{{4, 0, 0}, {5, lastDay - 1, 2}, {6, 0, 2}} {
		if from, length, e := ledger.Streak(ends, c.within); from != c.from || length != c.length || e != errnoOf(c.length > 0) {
			t.Error(c, from, length, e)
		}
	}
	// A day without an off ends a stretch, also where it has something.
	gap := append(withOffs(3, 0), append(withOffs(5, 0, 0), said(4, 0), said(7, 0))...)
	if from, length, e := ledger.Streak(gap, 0); from != 5 || length != 2 || e != api.OK {
		t.Error(from, length, e)
	}
}

func TestLettersAndFines(t *testing.T) {
	l := append(withOffs(30, -3, 3, -4, 4, 0), withOffs(2, 2*api.Day)...)
	for within, want := range map[int][]int{0: {2, 30, 31, 32, 33}, 2: {2, 30, 31, 32, 33}, 3: {2, 32, 33}, 4: {2}, api.Day: {2}} {
		if days, e := ledger.Letters(l, within); !slices.Equal(days, want) || e != api.OK {
			t.Error("Letters", within, days, e)
		}
		if n, e := ledger.Fine(l, within, 1000000); n != 1000000*len(want) || e != api.OK {
			t.Error("Fine", within, n, e)
		}
	}
	if days, e := ledger.Letters(withOffs(0, api.Day), api.Day); len(days) != 0 || e != api.OK {
		t.Error("not above", days, e)
	}
}

func TestRated(t *testing.T) {
	l := append(withOffs(30, -3, 4, 4), said(40, 1), found(41, 1))
	for _, c := range []struct {
		from, to, wrong int
		e               api.Errno
	}{
		{30, 31, 7, api.OK}, {31, 32, 0, api.OK}, {30, 32, 7, api.OK}, {29, 30, 0, api.ErrNone}, {30, 33, 0, api.ErrNone}, {0, 1, 0, api.ErrNone}, {32, 40, 0, api.ErrNone}, {32, 41, 0, api.ErrNone},
		{31, 31, 0, api.ErrRange}, {31, 30, 0, api.ErrRange}, {33, 33, 0, api.ErrRange}, {-1, 30, 0, api.ErrRange}, {30, lastDay + 1, 0, api.ErrRange}, {math.MinInt, math.MaxInt, 0, api.ErrRange},
	} {
		if n, e := ledger.Rated(l, c.from, c.to); n != c.wrong || e != c.e {
			t.Error(c, n, e)
		}
	}
	ends := append(withOffs(0, -2*api.Day), withOffs(lastDay, 2*api.Day)...)
	if n, e := ledger.Rated(ends, 0, lastDay); n != 4*api.Day || e != api.OK {
		t.Error("the greatest", n, e)
	}
}

// P9.3
func TestSumsAddUp(t *testing.T) {
	r := random()
	for range 200 {
		l := anyEntries(r, r.IntN(60))
		days := daysAround(l)
		from, middle, to := days[r.IntN(len(days))], days[r.IntN(len(days))], days[r.IntN(len(days))]
		three := []int{from, middle, to}
		slices.Sort(three)
		from, middle, to = three[0], three[1], three[2]
		if middle == to {
			continue
		}
		first, _ := ledger.Sum(l, from, middle)
		second, _ := ledger.Sum(l, middle+1, to)
		if both, e := ledger.Sum(l, from, to); both != first+second || e != api.OK {
			t.Fatal(l, from, middle, to, both, e)
		}
		all, total := 0, 0
		with, _ := ledger.Days(l)
		for _, day := range with {
			off, e := ledger.Off(l, day)
			if e != api.OK {
				t.Fatal(l, day, e)
			}
			all += off
		}
		if total, _ = ledger.Sum(l, 0, lastDay); total != all {
			t.Fatal(l, total, all)
		}
	}
}

// P9.4
func TestRatedFromDayToDay(t *testing.T) {
	r := random()
	for range 200 {
		l := anyEntries(r, 20+r.IntN(40))
		days, _ := ledger.Days(l)
		for i, a := range days {
			for j := i + 1; j < len(days); j++ {
				for _, c := range days[j+1:] {
					first, _ := ledger.Rated(l, a, days[j])
					second, _ := ledger.Rated(l, days[j], c)
					if whole, e := ledger.Rated(l, a, c); whole != first+second || e != api.OK {
						t.Fatal(l, a, days[j], c, whole, e)
					}
				}
			}
		}
		for _, within := range []int{0, 1, 3, api.Day} {
			all, _ := ledger.Letters(l, within)
			for _, day := range days {
				if off, _ := ledger.Off(l, day); off <= within && -off <= within {
					all = append(all, day)
				}
			}
			slices.Sort(all)
			if !slices.Equal(all, days) {
				t.Fatal(l, within, all, days)
			}
		}
	}
}

func TestErrorsOfStretches(t *testing.T) {
	rangeErrors := [][2]int{{-1, 5}, {5, -1}, {5, 4}, {lastDay, 0}, {0, lastDay + 1}, {lastDay + 1, lastDay + 1}, {lastDay + 1, lastDay + 2}, {-2, -1}, {math.MinInt, math.MaxInt}, {math.MaxInt, math.MinInt}}
	for _, call := range []func([]api.Entry, int, int) (int, api.Errno){ledger.Sum, ledger.Rated} {
		for _, ends := range rangeErrors {
			for _, l := range [][]api.Entry{nil, example()} {
				if n, e := call(l, ends[0], ends[1]); n != 0 || e != api.ErrRange {
					t.Error(ends, n, e)
				}
			}
			for _, l := range badLists() {
				if n, e := call(l, ends[0], ends[1]); n != 0 || e != api.ErrInvalid {
					t.Error(len(l), n, e)
				}
			}
		}
	}
	for _, ends := range rangeErrors {
		if m, e := ledger.Mean(example(), ends[0], ends[1]); m != (api.Ratio{}) || e != api.ErrRange {
			t.Error("Mean", ends, m, e)
		}
	}
	for _, l := range badLists() {
		for _, ends := range [][2]int{{5, 6}, {6, 5}} {
			if m, e := ledger.Mean(l, ends[0], ends[1]); m != (api.Ratio{}) || e != api.ErrInvalid {
				t.Error("Mean", len(l), m, e)
			}
			if n, e := ledger.Sum(l, ends[0], ends[1]); n != 0 || e != api.ErrInvalid {
				t.Error("Sum", len(l), n, e)
			}
			if n, e := ledger.Rated(l, ends[0], ends[1]); n != 0 || e != api.ErrInvalid {
				t.Error("Rated", len(l), n, e)
			}
		}
		if day, e := ledger.Worst(l); day != 0 || e != api.ErrInvalid {
			t.Error("Worst", len(l), day, e)
		}
	}
}

func TestErrorsOfBounds(t *testing.T) {
	for _, l := range [][]api.Entry{nil, example()} {
		for _, n := range []int{math.MinInt, -1, api.Day + 1, math.MaxInt} {
			checkBoundError(t, l, n, 0, api.ErrRange)
		}
		for _, pence := range []int{math.MinInt, -1, 1000001, math.MaxInt} {
			for _, within := range []int{0, api.Day, -1} {
				if n, e := ledger.Fine(l, within, pence); n != 0 || e != api.ErrRange {
					t.Error("Fine", within, pence, n, e)
				}
			}
		}
	}
	for _, l := range badLists() {
		for _, n := range []int{0, api.Day, -1, api.Day + 1} {
			checkBoundError(t, l, n, n, api.ErrInvalid)
		}
	}
}

func checkBoundError(t *testing.T, l []api.Entry, within, pence int, want api.Errno) {
	t.Helper()
	if from, length, e := ledger.Streak(l, within); from != 0 || length != 0 || e != want {
		t.Error("Streak", len(l), within, from, length, e)
	}
	if days, e := ledger.Letters(l, within); len(days) != 0 || e != want {
		t.Error("Letters", len(l), within, days, e)
	}
	if n, e := ledger.Fine(l, within, pence); n != 0 || e != want {
		t.Error("Fine", len(l), within, pence, n, e)
	}
}

// A mean is a valid fraction that says what Sum says.
func TestMeansAreValid(t *testing.T) {
	r := random()
	for range 500 {
		l := anyEntries(r, 60)
		days, _ := ledger.Days(l)
		total, _ := ledger.Sum(l, 0, lastDay)
		m, e := ledger.Mean(l, 0, lastDay)
		if e == api.OK && (!span.ValidRatio(m) || m.N*len(days) != total*m.D) {
			t.Fatal(l, m, total, days)
		}
	}
}
