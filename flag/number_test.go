package flag_test

import (
	"math"
	"slices"
	"strconv"
	"testing"

	"noongun/api"
	"noongun/flag"
)

func TestDigits(t *testing.T) {
	for _, c := range []struct {
		n    int
		want []int
	}{
		{0, []int{0}}, {7, []int{7}}, {10, []int{1, 0}}, {100, []int{1, 0, 0}}, {120, []int{1, 2, 0}}, {1000, []int{1, 0, 0, 0}}, {9999, []int{9, 9, 9, 9}}, {4071, []int{4, 0, 7, 1}},
	} {
		if got, e := flag.Digits(c.n); !slices.Equal(got, c.want) || e != api.OK {
			t.Error(c, got, e)
		}
	}
	for n := range 10000 {
		l, e := flag.Digits(n)
		text := ""
		for _, d := range l {
			text += strconv.Itoa(d)
		}
		if text != strconv.Itoa(n) || e != api.OK {
			t.Fatal(n, l, e)
		}
		if back, e := flag.Number(l); back != n || e != api.OK {
			t.Fatal(n, l, back, e)
		}
	}
	for _, n := range badNumbers() {
		if l, e := flag.Digits(n); len(l) != 0 || e != api.ErrRange {
			t.Error(n, l, e)
		}
	}
}

func TestNumber(t *testing.T) {
	for _, c := range []struct {
		l    []int
		want int
	}{
		{[]int{0}, 0}, {[]int{0, 0, 0, 0}, 0}, {[]int{0, 7}, 7}, {[]int{0, 0, 1, 2}, 12}, {[]int{0, 1, 0, 0}, 100}, {[]int{9, 9, 9, 9}, 9999}, {[]int{1, 2, 3}, 123},
	} {
		if got, e := flag.Number(c.l); got != c.want || e != api.OK {
			t.Error(c, got, e)
		}
	}
	for length := 1; length <= 4; length++ {
		for want, l := range lists(length, 0, 9) {
			if got, e := flag.Number(l); got != want || e != api.OK {
				t.Fatal(l, got, e)
			}
		}
	}
	for _, l := range badDigits() {
		if got, e := flag.Number(l); got != 0 || e != api.ErrInvalid {
			t.Error(l, got, e)
		}
	}
}

// P7.5
func TestTurned(t *testing.T) {
	for _, c := range []struct{ l, want []int }{
		{[]int{1, 2, 0}, []int{0, 2, 1}}, {[]int{5}, []int{5}}, {[]int{0, 1}, []int{1, 0}}, {[]int{1, 2, 3, 4}, []int{4, 3, 2, 1}}, {[]int{1, 0, 0, 0}, []int{0, 0, 0, 1}},
	} {
		if got, e := flag.Turned(c.l); !slices.Equal(got, c.want) || e != api.OK {
			t.Error(c, got, e)
		}
	}
	for _, l := range everyNumber() {
		got, e := flag.Turned(l)
		if len(got) != len(l) || e != api.OK {
			t.Fatal(l, got, e)
		}
		for i := range l {
			if got[i] != l[len(l)-1-i] {
				t.Fatal(l, got)
			}
		}
		if again, e := flag.Turned(got); !slices.Equal(again, l) || e != api.OK {
			t.Fatal("twice", l, again, e)
		}
	}
	for _, l := range badDigits() {
		if got, e := flag.Turned(l); len(got) != 0 || e != api.ErrInvalid {
			t.Error(l, got, e)
		}
	}
}

// P7.4
func TestChecked(t *testing.T) {
	for _, c := range []struct{ l, want []int }{
		{[]int{0}, []int{0, 0}}, {[]int{1}, []int{1, 9}}, {[]int{9}, []int{9, 1}}, {[]int{5, 5}, []int{5, 5, 0}}, {[]int{0, 0, 0}, []int{0, 0, 0, 0}}, {[]int{9, 9, 9}, []int{9, 9, 9, 3}}, {[]int{1, 2, 3}, []int{1, 2, 3, 4}},
	} {
		if got, e := flag.Checked(c.l); !slices.Equal(got, c.want) || e != api.OK {
			t.Error(c, got, e)
		}
	}
	for _, l := range slices.Concat(lists(1, 0, 9), lists(2, 0, 9), lists(3, 0, 9)) {
		got, e := flag.Checked(l)
		if len(got) != len(l)+1 || !slices.Equal(got[:len(l)], l) || e != api.OK {
			t.Fatal(l, got, e)
		}
		checkOneChange(t, got)
	}
	for _, l := range lists(4, 0, 9) {
		if got, e := flag.Checked(l); len(got) != 0 || e != api.ErrRange {
			t.Fatal(l, got, e)
		}
	}
	for _, l := range badDigits() { // ErrInvalid before ErrRange
		if got, e := flag.Checked(l); len(got) != 0 || e != api.ErrInvalid {
			t.Error(l, got, e)
		}
	}
}

// checkOneChange asks whether digits are right, and wrong with any one of them changed.
func checkOneChange(t *testing.T, l []int) {
	t.Helper()
	if right, e := flag.Right(l); !right || e != api.OK {
		t.Fatal(l, right, e)
	}
	for i := range l {
		for d := range 10 {
			changed := slices.Clone(l)
			changed[i] = d
			if right, e := flag.Right(changed); right != (d == l[i]) || e != api.OK {
				t.Fatal(l, changed, right, e)
			}
		}
	}
}

func TestRight(t *testing.T) {
	for _, l := range everyNumber() {
		sum := 0
		for _, d := range l {
			sum += d
		}
		if right, e := flag.Right(l); right != (sum == 0 || sum == 10 || sum == 20 || sum == 30) || e != api.OK {
			t.Fatal(l, right, e)
		}
	}
	for _, l := range append(badDigits(), []int{-10}, []int{10}, []int{5, 5, 0, 0, 0}, []int{math.MinInt, math.MinInt}) {
		if right, e := flag.Right(l); right || e != api.ErrInvalid {
			t.Error(l, right, e)
		}
	}
}

// distance is by the letter of the chapter.
func distance(a, b int) int {
	s, t := strconv.Itoa(a), strconv.Itoa(b)
	if len(s) != len(t) {
		return 4
	}
	n := 0
	for i := range s {
		if s[i] != t[i] {
			n++
		}
	}
	return n
}

// P7.5
func TestDistance(t *testing.T) {
	for _, c := range []struct{ a, b, want int }{
		{0, 0, 0}, {0, 9, 1}, {9, 10, 4}, {0, 9999, 4}, {99, 100, 4}, {999, 1000, 4}, {12, 21, 2}, {12, 12, 0}, {12, 13, 1}, {120, 210, 2}, {123, 456, 3}, {1234, 1235, 1}, {1234, 4321, 4}, {1234, 1324, 2}, {1000, 2001, 2}, {9999, 9999, 0}, {1, 1001, 4},
	} {
		if got, e := flag.Distance(c.a, c.b); got != c.want || e != api.OK {
			t.Error(c, got, e)
		}
		if got, e := flag.Distance(c.b, c.a); got != c.want || e != api.OK {
			t.Error(c, got, e)
		}
	}
	for a := 0; a < 10000; a += 7 {
		for b := 0; b < 10000; b += 11 {
			got, e := flag.Distance(a, b)
			if got != distance(a, b) || (got == 0) != (a == b) || e != api.OK {
				t.Fatal(a, b, got, e)
			}
			if back, e := flag.Distance(b, a); back != got || e != api.OK {
				t.Fatal(b, a, back, e)
			}
		}
	}
	for n := range 10000 {
		if got, e := flag.Distance(n, n); got != 0 || e != api.OK {
			t.Fatal(n, got, e)
		}
	}
	for _, bad := range badNumbers() {
		for _, n := range []int{0, 9999, bad, -1, 10000} {
			if got, e := flag.Distance(bad, n); got != 0 || e != api.ErrRange {
				t.Error(bad, n, got, e)
			}
			if got, e := flag.Distance(n, bad); got != 0 || e != api.ErrRange {
				t.Error(n, bad, got, e)
			}
		}
	}
}
