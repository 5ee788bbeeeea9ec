package flag_test

import (
	"fmt"
	"math"
	"slices"
	"testing"

	"noongun/api"
	"noongun/flag"
)

// checkSet holds what can be hoisted of a number with a set of flags against all its hoists.
func checkSet(t *testing.T, all [][]int, digits []int, flags int) {
	t.Helper()
	var want [][]int
	for _, h := range all {
		if subset(setOf(h), flags) {
			want = append(want, h)
		}
	}
	if got, e := flag.Hoists(digits, flags); !slices.EqualFunc(got, want, slices.Equal) || e != api.OK {
		t.Fatal("Hoists", digits, flags, got, e)
	}
	first, wantError := []int(nil), api.ErrFlag
	if len(want) > 0 {
		first, wantError = want[0], api.OK
	}
	if got, e := flag.With(digits, flags); !slices.Equal(got, first) || e != wantError {
		t.Fatal("With", digits, flags, got, e)
	}
	missed, missedError := missedOf(all, flags)
	if got, e := flag.Missed(digits, flags); !slices.Equal(got, missed) || e != missedError {
		t.Fatal("Missed", digits, flags, got, e)
	}
}

// missedOf adds each flag by itself.
func missedOf(all [][]int, flags int) ([]int, api.Errno) {
	possible := func(set int) bool {
		return slices.ContainsFunc(all, func(h []int) bool { return subset(setOf(h), set) })
	}
	if possible(flags) {
		return nil, api.ErrState
	}
	var l []int
	for f := range 13 {
		if possible(flags | 1<<f) {
			l = append(l, f)
		}
	}
	return l, api.OK
}

// P7.3
func TestHoistsWithSets(t *testing.T) {
	every := everyHoist()
	r := random()
	for _, digits := range everyNumber() {
		all := every[fmt.Sprint(digits)]
		own := setOf(all[0])
		sets := []int{0, allFlags, own, allFlags &^ own, 1023, 7168, own & 1023, own | 7168, r.IntN(8192), r.IntN(8192) | own&1023}
		for f := range 13 {
			sets = append(sets, own&^(1<<f), allFlags&^(1<<f))
		}
		for _, flags := range sets {
			checkSet(t, all, digits, flags)
		}
		if got, e := flag.Hoists(digits, allFlags); !slices.ContainsFunc(got, func(h []int) bool { return slices.Equal(h, usual(digits)) }) || e != api.OK {
			t.Fatal("without the usual one", digits, got, e)
		}
	}
}

func TestHoistsWithAllSets(t *testing.T) {
	every := everyHoist()
	for _, digits := range [][]int{{7}, {0, 0}, {1, 2}, {3, 2, 3}, {1, 1, 1}, {1, 2, 1, 1}, {5, 5, 5, 5}, {0, 1, 1, 0}} {
		for flags := range 8192 {
			checkSet(t, every[fmt.Sprint(digits)], digits, flags)
		}
	}
}

// Can counts the hoists of a length, so that each number must have one alone.
func TestOneHoistForEachNumber(t *testing.T) {
	every := everyHoist()
	if len(every) != 11110 {
		t.Error(len(every))
	}
	for number, all := range every {
		if len(all) != 1 {
			t.Error(number, all)
		}
	}
}

func TestKnownHoists(t *testing.T) {
	for _, c := range []struct {
		digits []int
		flags  int
		want   [][]int
	}{
		{[]int{1, 1, 1, 1}, allFlags, [][]int{{1, 10, 11, 12}}}, {[]int{1, 1, 1, 1}, 7170, [][]int{{1, 10, 11, 12}}}, {[]int{1, 1, 1, 1}, 7168, nil}, {[]int{1, 2, 1, 1}, allFlags, [][]int{{1, 2, 10, 12}}}, {[]int{1, 2, 1, 1}, allFlags &^ 2048, [][]int{{1, 2, 10, 12}}},
		{[]int{1, 1}, allFlags &^ 1024, nil}, {[]int{0}, 1, [][]int{{0}}}, {[]int{0}, 0, nil}, {[]int{0}, 8190, nil}, {[]int{9, 9}, 1536, [][]int{{9, 10}}},
	} {
		got, e := flag.Hoists(c.digits, c.flags)
		if !slices.EqualFunc(got, c.want, slices.Equal) || e != api.OK {
			t.Error(c, got, e)
		}
		h, e := flag.With(c.digits, c.flags)
		if len(c.want) == 0 && (len(h) != 0 || e != api.ErrFlag) || len(c.want) > 0 && (!slices.Equal(h, c.want[0]) || e != api.OK) {
			t.Error(c, h, e)
		}
	}
}

func TestKnownMissed(t *testing.T) {
	for _, c := range []struct {
		digits []int
		flags  int
		want   []int
		e      api.Errno
	}{
		{[]int{1, 1}, allFlags &^ 1024, []int{10}, api.OK}, {[]int{1, 1}, 2, []int{10}, api.OK}, {[]int{1, 1}, 1024, []int{1}, api.OK}, {[]int{1, 1}, 0, nil, api.OK}, {[]int{1, 1}, 7168, []int{1}, api.OK}, {[]int{1, 1}, 2 | 2048 | 4096, []int{10}, api.OK},
		{[]int{0}, 0, []int{0}, api.OK}, {[]int{9}, 511, []int{9}, api.OK}, {[]int{1, 2, 3, 4}, 14, []int{4}, api.OK}, {[]int{1, 2, 3, 4}, 12, nil, api.OK}, {[]int{1, 1, 1, 1}, 7170 &^ 4096, []int{12}, api.OK}, {[]int{1, 1, 1, 1}, 2, nil, api.OK},
		{[]int{1, 1}, 1026, nil, api.ErrState}, {[]int{1, 1}, allFlags, nil, api.ErrState}, {[]int{0}, 1, nil, api.ErrState},
	} {
		if got, e := flag.Missed(c.digits, c.flags); !slices.Equal(got, c.want) || e != c.e {
			t.Error(c, got, e)
		}
	}
}

// P7.2 and P7.3: how many numbers have a hoist of the flags of each set.
func TestCan(t *testing.T) {
	every := everyHoist()
	for length := 1; length <= 4; length++ {
		counts := make([]int, 8192)
		for _, digits := range lists(length, 0, 9) {
			counts[setOf(every[fmt.Sprint(digits)][0])]++
		}
		// From the numbers that need just a set to those that need no more than it.
		for f := range 13 {
			for set := range counts {
				if set>>f&1 == 1 {
					counts[set] += counts[set-1<<f]
				}
			}
		}
		for flags, want := range counts {
			if got, e := flag.Can(length, flags); got != want || e != api.OK {
				t.Fatal(length, flags, got, e, want)
			}
		}
	}
}

func TestKnownCan(t *testing.T) {
	for _, c := range []struct{ length, flags, want int }{
		{1, allFlags, 10}, {2, allFlags, 100}, {3, allFlags, 1000}, {4, allFlags, 10000}, {1, 0, 0}, {4, 0, 0}, {1, 1023, 10}, {2, 1023, 90}, {3, 1023, 720}, {4, 1023, 5040},
		{1, 7168, 0}, {4, 7168, 0}, {4, 7170, 1}, {2, 7170, 1}, {1, 7170, 1}, {2, 1026, 1}, {2, 2050, 0}, {2, 6, 2}, {3, 6, 0}, {3, 2 | 4 | 1024, 4}, {3, 2 | 4 | 2048, 2},
	} {
		if got, e := flag.Can(c.length, c.flags); got != c.want || e != api.OK {
			t.Error(c, got, e)
		}
	}
}

// P7.3: more flags make no less possible.
func TestMoreFlags(t *testing.T) {
	r := random()
	numbers := everyNumber()
	for range 20000 {
		digits, flags := numbers[r.IntN(len(numbers))], r.IntN(8192)
		more := flags | 1<<r.IntN(13)
		less, _ := flag.Hoists(digits, flags)
		got, e := flag.Hoists(digits, more)
		if len(got) < len(less) || e != api.OK {
			t.Fatal(digits, flags, more, less, got, e)
		}
		for _, h := range less {
			if !slices.ContainsFunc(got, func(g []int) bool { return slices.Equal(g, h) }) {
				t.Fatal(digits, flags, more, less, got)
			}
		}
	}
}

func TestHoistErrors(t *testing.T) {
	sets := append(badSets(), 0, allFlags)
	for _, digits := range badDigits() {
		for _, flags := range sets { // ErrInvalid before ErrRange
			checkRefused(t, digits, flags, api.ErrInvalid)
		}
	}
	for _, flags := range badSets() {
		checkRefused(t, []int{1, 1}, flags, api.ErrRange)
		checkRefused(t, []int{0}, flags, api.ErrRange)
	}
	for _, length := range []int{math.MinInt, -1, 0, 5, 6, math.MaxInt} {
		for _, flags := range sets {
			if n, e := flag.Can(length, flags); n != 0 || e != api.ErrRange {
				t.Error(length, flags, n, e)
			}
		}
	}
	for length := 1; length <= 4; length++ {
		for _, flags := range badSets() {
			if n, e := flag.Can(length, flags); n != 0 || e != api.ErrRange {
				t.Error(length, flags, n, e)
			}
		}
	}
}

func checkRefused(t *testing.T, digits []int, flags int, want api.Errno) {
	t.Helper()
	if l, e := flag.Hoists(digits, flags); len(l) != 0 || e != want {
		t.Error("Hoists", digits, flags, l, e)
	}
	if l, e := flag.With(digits, flags); len(l) != 0 || e != want {
		t.Error("With", digits, flags, l, e)
	}
	if l, e := flag.Missed(digits, flags); len(l) != 0 || e != want {
		t.Error("Missed", digits, flags, l, e)
	}
}
