package transit_test

import (
	"slices"
	"testing"

	"noongun/api"
	"noongun/transit"
)

func TestSets(t *testing.T) {
	for _, c := range []struct {
		width      int
		l          []api.Transit
		least      []int // nil for ErrNone
		most       []int
		odd        int
		oddsErrors api.Errno
	}{
		{10, list([2]int{0, 0}), nil, []int{0}, 0, api.ErrState},
		{0, list([2]int{7, 3}), nil, []int{0}, 0, api.ErrState},
		{10, list([2]int{0, 0}, [2]int{0, 20}), nil, []int{0, 1}, 0, api.ErrState},
		{10, list([2]int{0, 0}, [2]int{0, 21}), []int{0, 1}, []int{0}, 0, api.OK},
		{10, list([2]int{4, 0}, [2]int{4, 21}), []int{0, 1}, []int{0}, 0, api.OK},
		{10, list([2]int{0, 0}, [2]int{1, 43000000}), nil, []int{0, 1}, 0, api.ErrState},
		{0, list([2]int{0, 0}, [2]int{1000, 10}, [2]int{2000, 20}), nil, []int{0, 1, 2}, 0, api.ErrState},
		{0, list([2]int{0, 0}, [2]int{1000, 10}, [2]int{2000, 21}), []int{0, 1, 2}, []int{0, 1}, 0, api.OK},
		{0, list([2]int{0, 0}, [2]int{1000, 10}, [2]int{2000, 21}, [2]int{3000, 30}), []int{0, 1, 2}, []int{0, 1, 3}, 2, api.OK},
		{0, list([2]int{0, 1}, [2]int{1000, 10}, [2]int{2000, 20}, [2]int{3000, 30}), []int{0, 1, 2}, []int{1, 2, 3}, 0, api.OK},
		{0, list([2]int{0, 0}, [2]int{1000, 10}, [2]int{2000, 20}, [2]int{3000, 31}), []int{0, 1, 3}, []int{0, 1, 2}, 3, api.OK},
		// two that do not agree come before three, wherever they stand
		{0, list([2]int{0, 0}, [2]int{1000, 10}, [2]int{2000, 21}, [2]int{2000, 30}), []int{2, 3}, []int{0, 1}, 0, api.ErrNone},
		{0, list([2]int{5, 0}, [2]int{5, 1}, [2]int{5, 2}), []int{0, 1}, []int{0}, 0, api.ErrNone},
		{1, list([2]int{5, 0}, [2]int{5, 2}, [2]int{5, 4}), []int{0, 2}, []int{0, 1}, 0, api.OK},
		{1, list([2]int{5, 2}, [2]int{5, 0}, [2]int{5, 4}), []int{1, 2}, []int{0, 1}, 1, api.OK},
		{1, list([2]int{5, 9}, [2]int{5, 0}, [2]int{5, 1}), []int{0, 1}, []int{1, 2}, 0, api.OK},
		{1, list([2]int{5, 0}, [2]int{5, 9}, [2]int{5, 0}, [2]int{5, 9}), []int{0, 1}, []int{0, 2}, 0, api.ErrNone},
	} {
		least, e := transit.Least(single(c.width), c.l)
		if !slices.Equal(least, c.least) || c.least == nil && e != api.ErrNone || c.least != nil && e != api.OK {
			t.Error("Least", c.width, c.l, least, e)
		}
		if most, e := transit.Most(single(c.width), c.l); !slices.Equal(most, c.most) || e != api.OK {
			t.Error("Most", c.width, c.l, most, e)
		}
		if odd, e := transit.Odd(single(c.width), c.l); odd != c.odd || e != c.oddsErrors {
			t.Error("Odd", c.width, c.l, odd, e)
		}
	}
}

// Least, Most and Odd are as trying all sets says, each by the corners of its polygon.
func TestSetsByTryingAll(t *testing.T) {
	r := random()
	met := map[int]int{}
	for range 600 {
		width := []int{0, 3, 40}[r.IntN(3)]
		l := anyList(r, 1+r.IntN(6), max(width, 2))
		checkSets(t, l, width, met)
	}
	for size := range 4 {
		if size != 1 && met[size] < 20 {
			t.Error("hardly tried", met)
		}
	}
	for range 3 {
		checkSets(t, anyList(r, 9, 20), 20, met)
	}
}

func checkSets(t *testing.T, l []api.Transit, width int, met map[int]int) {
	t.Helper()
	s := statementsOf(l, width)
	var least, most []int
	odd, oddError := 0, api.ErrNone
	for _, set := range sets(len(l)) {
		yes := s.part(set).agree()
		if !yes && least == nil {
			least = set
		}
		if yes && len(set) > len(most) {
			most = set
		}
	}
	if least == nil {
		oddError = api.ErrState
	}
	for i := range l {
		if oddError == api.ErrNone && s.part(without(len(l), i)).agree() {
			odd, oddError = i, api.OK
		}
	}
	met[len(least)]++
	got, e := transit.Least(single(width), l)
	if !slices.Equal(got, least) || (e == api.ErrNone) != (least == nil) || (e == api.OK) != (least != nil) || len(got) > 3 {
		t.Fatal("Least", width, l, got, e, least)
	}
	if got, e := transit.Most(single(width), l); !slices.Equal(got, most) || e != api.OK {
		t.Fatal("Most", width, l, got, e, most)
	}
	if got, e := transit.Odd(single(width), l); got != odd || e != oddError {
		t.Fatal("Odd", width, l, got, e, odd, oddError)
	}
}

// without are the numbers below n, but for one.
func without(n, i int) []int {
	var l []int
	for k := range n {
		if k != i {
			l = append(l, k)
		}
	}
	return l
}

func picked(l []api.Transit, set []int) []api.Transit {
	var part []api.Transit
	for _, i := range set {
		part = append(part, l[i])
	}
	return part
}

func agree(t *testing.T, x api.Tube, l []api.Transit) bool {
	t.Helper()
	yes, e := transit.Agree(x, l)
	if e != api.OK {
		t.Fatal(x, l, e)
	}
	return yes
}

// The longest lists: three are enough, and the largest set can take no other one.
func TestThreeAreEnough(t *testing.T) {
	r := random()
	met := map[bool]int{}
	for range 150 {
		width := 20 + r.IntN(30)
		l := anyList(r, 12, width/(1+r.IntN(3)))
		x := single(width)
		threes := true
		for _, set := range sets(12) {
			if len(set) == 3 {
				threes = threes && agree(t, x, picked(l, set))
			}
		}
		met[threes]++
		if threes != agree(t, x, l) {
			t.Fatal("every three agree:", threes, width, l)
		}
		least, e := transit.Least(x, l)
		if (e == api.ErrNone) != threes || !threes && (len(least) < 2 || len(least) > 3 || agree(t, x, picked(l, least))) {
			t.Fatal("Least", width, l, least, e)
		}
		for i := range least {
			if !agree(t, x, picked(l, slices.Delete(slices.Clone(least), i, i+1))) {
				t.Fatal("not all of these are needed", width, l, least)
			}
		}
		most, e := transit.Most(x, l)
		if e != api.OK || !agree(t, x, picked(l, most)) {
			t.Fatal("Most", width, l, most, e)
		}
		for i := range l {
			if !slices.Contains(most, i) && agree(t, x, append(picked(l, most), l[i])) {
				t.Fatal("one more agrees", width, l, most, i)
			}
		}
	}
	if met[true] < 10 || met[false] < 10 {
		t.Error("hardly tried", met)
	}
}

// Tightest's error, where a tube can have it.
func TestTightestAgrees(t *testing.T) {
	r := random()
	done := 0
	for range 500 {
		l := anyList(r, 1+r.IntN(12), 1+r.IntN(500))
		least, e := transit.Tightest(single(0), l)
		if e != api.OK || least > 10000 {
			continue
		}
		if !agree(t, single(least), l) || least > 0 && agree(t, single(least-1), l) {
			t.Fatal(l, least)
		}
		done++
	}
	if done < 400 {
		t.Error("hardly tried", done)
	}
}
