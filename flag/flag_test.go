package flag_test

import (
	"math"
	"slices"
	"testing"

	"noongun/api"
	"noongun/flag"
)

func TestValidDigits(t *testing.T) {
	for _, l := range everyNumber() {
		if !flag.ValidDigits(l) {
			t.Error(l)
		}
	}
	for _, l := range badDigits() {
		if flag.ValidDigits(l) {
			t.Error(l)
		}
	}
}

func TestValidHoist(t *testing.T) {
	for length := range 5 {
		for _, h := range lists(length, -1, 13) {
			if got := flag.ValidHoist(h); got != validHoist(h) {
				t.Fatal(h, got)
			}
		}
	}
	for _, h := range lists(5, 7, 13) {
		if flag.ValidHoist(h) {
			t.Fatal(h)
		}
	}
	for _, h := range badHoists() {
		if flag.ValidHoist(h) {
			t.Error(h)
		}
	}
	for _, h := range [][]int{{0}, {9}, {0, 10}, {0, 1, 10}, {0, 1, 11}, {0, 10, 11}, {0, 10, 11, 12}, {5, 4, 3, 12}, {5, 4, 11, 10}, {5, 4, 11, 12}, {9, 8, 7, 6}} {
		if !flag.ValidHoist(h) {
			t.Error(h)
		}
	}
}

func TestMeans(t *testing.T) {
	for _, c := range []struct{ h, want []int }{
		{[]int{7}, []int{7}}, {[]int{0, 1}, []int{0, 1}}, {[]int{1, 10, 11, 12}, []int{1, 1, 1, 1}}, {[]int{1, 2, 10, 12}, []int{1, 2, 1, 1}}, {[]int{5, 10}, []int{5, 5}},
		{[]int{5, 4, 11}, []int{5, 4, 4}}, {[]int{5, 4, 3, 12}, []int{5, 4, 3, 3}}, {[]int{5, 4, 11, 12}, []int{5, 4, 4, 4}}, {[]int{5, 4, 11, 10}, []int{5, 4, 4, 5}}, {[]int{0, 9, 10, 11}, []int{0, 9, 0, 9}},
	} {
		if got, e := flag.Means(c.h); !slices.Equal(got, c.want) || e != api.OK {
			t.Error(c, got, e)
		}
	}
	for length := range 5 {
		for _, h := range lists(length, -1, 13) {
			var want []int
			wantError := api.ErrInvalid
			if validHoist(h) {
				want, wantError = means(h), api.OK
			}
			if got, e := flag.Means(h); !slices.Equal(got, want) || e != wantError {
				t.Fatal(h, got, e)
			}
		}
	}
	for _, h := range badHoists() {
		if got, e := flag.Means(h); len(got) != 0 || e != api.ErrInvalid {
			t.Error(h, got, e)
		}
	}
}

// P7.2
func TestHoist(t *testing.T) {
	for _, c := range []struct{ digits, want []int }{
		{[]int{1, 1, 1, 1}, []int{1, 10, 11, 12}}, {[]int{1, 2, 1, 1}, []int{1, 2, 10, 12}}, {[]int{0}, []int{0}}, {[]int{0, 0}, []int{0, 10}}, {[]int{1, 1, 2, 2}, []int{1, 10, 2, 12}}, {[]int{1, 2, 2, 1}, []int{1, 2, 11, 10}},
		{[]int{1, 2, 1, 2}, []int{1, 2, 10, 11}}, {[]int{1, 2, 2, 2}, []int{1, 2, 11, 12}}, {[]int{1, 1, 1, 2}, []int{1, 10, 11, 2}}, {[]int{1, 1, 2, 1}, []int{1, 10, 2, 11}}, {[]int{9, 8, 7, 6}, []int{9, 8, 7, 6}}, {[]int{0, 0, 7}, []int{0, 10, 7}},
	} {
		if got, e := flag.Hoist(c.digits); !slices.Equal(got, c.want) || e != api.OK {
			t.Error(c, got, e)
		}
	}
	for _, digits := range everyNumber() {
		h, e := flag.Hoist(digits)
		if !slices.Equal(h, usual(digits)) || e != api.OK {
			t.Fatal(digits, h, e)
		}
		if !flag.ValidHoist(h) {
			t.Fatal("not valid", digits, h)
		}
		if got, e := flag.Means(h); !slices.Equal(got, digits) || e != api.OK {
			t.Fatal("does not mean it", digits, h, got, e)
		}
	}
	for _, digits := range badDigits() {
		if h, e := flag.Hoist(digits); len(h) != 0 || e != api.ErrInvalid {
			t.Error(digits, h, e)
		}
	}
}

func TestFlags(t *testing.T) {
	for _, c := range []struct {
		h    []int
		want int
	}{
		{[]int{0}, 1}, {[]int{9}, 512}, {[]int{0, 10}, 1025}, {[]int{1, 10, 11, 12}, 7170}, {[]int{3, 2, 1, 0}, 15}, {[]int{0, 1, 2, 12}, 4103}, {[]int{0, 9, 11}, 2561},
	} {
		if got, e := flag.Flags(c.h); got != c.want || e != api.OK {
			t.Error(c, got, e)
		}
	}
	for _, hoists := range everyHoist() {
		for _, h := range hoists {
			if got, e := flag.Flags(h); got != setOf(h) || e != api.OK {
				t.Fatal(h, got, e)
			}
		}
	}
	for _, h := range append(badHoists(), []int{math.MinInt, math.MinInt}) {
		if got, e := flag.Flags(h); got != 0 || e != api.ErrInvalid {
			t.Error(h, got, e)
		}
	}
}
