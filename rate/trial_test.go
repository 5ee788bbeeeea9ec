package rate_test

import (
	"math"
	"math/rand/v2"
	"slices"
	"strings"
	"testing"

	"noongun/api"
	"noongun/rate"
)

func TestTrial(t *testing.T) {
	r := random()
	for _, c := range []struct {
		b    api.Box
		want api.Trial
		e    api.Errno
	}{
		{example(), api.Trial{Name: "harrison", Least: 49, Greatest: 56, Leap: 7, Number: 21}, api.OK},
		{weeks(r, "a", 56, 49), api.Trial{Name: "a", Least: 49, Greatest: 56, Leap: 7, Number: 21}, api.OK},
		{weeks(r, "a", 5, 5), api.Trial{Name: "a", Least: 5, Greatest: 5}, api.OK},
		{weeks(r, "a", -3, 4), api.Trial{Name: "a", Least: -3, Greatest: 4, Leap: 7, Number: 21}, api.OK},
		{weeks(r, "a", -9, -30, -12), api.Trial{Name: "a", Least: -30, Greatest: -9, Leap: 21, Number: 63}, api.OK},
		{weeks(r, "a", 1, 2, 3, 4, 5, 9, 8), api.Trial{Name: "a", Least: 1, Greatest: 9, Leap: 4, Number: 16}, api.OK},
		{weeks(r, "a", 10, 9, 8, 2, 3, 4), api.Trial{Name: "a", Least: 2, Greatest: 10, Leap: 6, Number: 20}, api.OK},
		{weeks(r, "a", 5, 9, 9, 3), api.Trial{Name: "a", Least: 3, Greatest: 9, Leap: 6, Number: 18}, api.OK},
		{box("a", 0, 9, 9, 9, 9, 9, 9, 1, 9, 9, 9, 9, 9, 9), api.Trial{}, api.ErrNone},
		{box("a", 0, 9, 9, 9, 9, 9, 9, 1, 9, 9, 9, 9, 9, 9, 4), api.Trial{Name: "a", Least: 1, Greatest: 3, Leap: 2, Number: 6}, api.OK},
		{box("a", 1, 2), api.Trial{}, api.ErrNone}, {box("a", make([]int, 8)...), api.Trial{}, api.ErrNone}, {box("a", make([]int, 400)...), api.Trial{Name: "a"}, api.OK},
	} {
		if x, e := rate.Trial(c.b); x != c.want || e != c.e {
			t.Error(c, x, e)
		}
	}
	far := box("a", make([]int, 22)...)
	far.Errors[0], far.Errors[7], far.Errors[14], far.Errors[21] = -api.Day, api.Day, -api.Day, api.Day
	if x, e := rate.Trial(far); x != (api.Trial{Name: "a", Least: -172800000, Greatest: 172800000, Leap: 345600000, Number: 1036800000}) || e != api.OK {
		t.Error("far", x, e)
	}
}

func TestAnyTrial(t *testing.T) {
	r := random()
	for count := 2; count <= 400; count++ {
		for range 5 {
			b := anyBox(r, "a", count)
			want, wantError := trial(b)
			if x, e := rate.Trial(b); x != want || e != wantError || (e == api.OK) != (count >= 15) {
				t.Fatal(b, x, e)
			}
		}
	}
}

// P6.3
func TestShiftedTrial(t *testing.T) {
	r := random()
	tried := 0
	for range 3000 {
		b := anyBox(r, "a", 15+r.IntN(100))
		by, per := r.IntN(2001)-1000, r.IntN(2001)-1000
		shifted, e := rate.Shifted(b, by, per)
		if e != api.OK {
			continue
		}
		tried++
		x, _ := rate.Trial(b)
		y, e := rate.Trial(shifted)
		if y.Number != x.Number || y.Leap != x.Leap || y.Least != x.Least+7*per || y.Greatest != x.Greatest+7*per || e != api.OK {
			t.Fatal(b, by, per, x, y, e)
		}
	}
	if tried < 1000 {
		t.Error("hardly tried", tried)
	}
}

// P6.3: one box loses just so much as the other one gains.
func TestOppositeTrial(t *testing.T) {
	r := random()
	for range 2000 {
		b := anyBox(r, "a", 15+r.IntN(100))
		opposite := box("b")
		for _, n := range b.Errors {
			opposite.Errors = append(opposite.Errors, -n)
		}
		x, _ := rate.Trial(b)
		y, e := rate.Trial(opposite)
		if y != (api.Trial{Name: "b", Least: -x.Greatest, Greatest: -x.Least, Leap: x.Leap, Number: x.Number}) || e != api.OK {
			t.Fatal(b, x, y, e)
		}
	}
}

// ranked takes the best of the trials, and then the best of the others, and so on.
func ranked(l []api.Box) []api.Trial {
	var left, sorted []api.Trial
	for _, b := range l {
		x, _ := trial(b)
		left = append(left, x)
	}
	for len(left) > 0 {
		best := 0
		for i, x := range left {
			if x.Number < left[best].Number || x.Number == left[best].Number && x.Name < left[best].Name {
				best = i
			}
		}
		sorted = append(sorted, left[best])
		left = slices.Delete(left, best, best+1)
	}
	return sorted
}

func TestRanked(t *testing.T) {
	r := random()
	equal := 0
	for range 2000 {
		l := anyBoxes(r, 1+r.IntN(16), 15, 60)
		want := ranked(l)
		if got, e := rate.Ranked(l); !slices.Equal(got, want) || e != api.OK {
			t.Fatal(l, got, e)
		}
		for i := range want[1:] {
			if want[i].Number == want[i+1].Number {
				equal++
			}
		}
	}
	if equal < 1000 {
		t.Error("hardly tried", equal)
	}
	l := []api.Box{weeks(r, "c", 1, 2), weeks(r, "b9", 5, 6), weeks(r, "b", 7, 6), weeks(r, "b_", 0, 1), weeks(r, "d", 0, 0), weeks(r, "a", 0, 9), weeks(r, "ba", 0, 1)}
	var names []string
	got, e := rate.Ranked(l)
	for _, x := range got {
		names = append(names, x.Name)
	}
	if strings.Join(names, " ") != "d b b9 b_ ba c a" || e != api.OK { // names bytewise
		t.Error(got, e)
	}
}

func TestRankedErrors(t *testing.T) {
	for _, l := range badLists() {
		if got, e := rate.Ranked(l); len(got) != 0 || e != api.ErrInvalid {
			t.Error(len(l), got, e)
		}
		for _, most := range []int{0, 100, -1} {
			if got, e := rate.Passed(l, most); len(got) != 0 || e != api.ErrInvalid {
				t.Error(len(l), most, got, e)
			}
		}
	}
	r := random()
	for count := 2; count < 15; count++ { // too short for a trial, wherever it stands
		for at := range 4 {
			l := anyBoxes(r, 3, 15, 30)
			l = slices.Insert(l, at, anyBox(r, "short", count))
			if got, e := rate.Ranked(l); len(got) != 0 || e != api.ErrNone {
				t.Error(count, at, got, e)
			}
			if got, e := rate.Passed(l, math.MaxInt); len(got) != 0 || e != api.ErrNone {
				t.Error(count, at, got, e)
			}
			for _, most := range []int{-1, math.MinInt} { // ErrRange before ErrNone
				if got, e := rate.Passed(l, most); len(got) != 0 || e != api.ErrRange {
					t.Error(count, at, most, got, e)
				}
			}
		}
	}
	for _, most := range []int{-1, math.MinInt} {
		if got, e := rate.Passed([]api.Box{example()}, most); len(got) != 0 || e != api.ErrRange {
			t.Error(most, got, e)
		}
	}
	// A box that is not valid behind one that has no trial.
	if got, e := rate.Ranked([]api.Box{box("a", 1, 2), box("b", 1)}); len(got) != 0 || e != api.ErrInvalid {
		t.Error(got, e)
	}
}

func TestPassed(t *testing.T) {
	r := random()
	l := []api.Box{weeks(r, "c", 0, 7), weeks(r, "b", 3, 3), weeks(r, "a", -7, 0), weeks(r, "d", 1, 0)}
	for most, want := range map[int]string{0: "b", 1: "b", 2: "b", 3: "b d", 20: "b d", 21: "b d a c", math.MaxInt: "b d a c"} {
		if got, e := rate.Passed(l, most); strings.Join(got, " ") != want || e != api.OK {
			t.Error(most, got, e)
		}
	}
	for _, most := range []int{0, 20} { // none passes: that is no error
		if got, e := rate.Passed([]api.Box{example()}, most); len(got) != 0 || e != api.OK {
			t.Error(most, got, e)
		}
	}
	for range 2000 {
		l := anyBoxes(r, 1+r.IntN(16), 15, 40)
		all := ranked(l)
		most := max(0, all[r.IntN(len(all))].Number+r.IntN(3)-1)
		var want []string
		for _, x := range all {
			if x.Number <= most {
				want = append(want, x.Name)
			}
		}
		if got, e := rate.Passed(l, most); !slices.Equal(got, want) || e != api.OK {
			t.Fatal(l, most, got, e)
		}
	}
}

func trials(numbers ...int) []api.Trial {
	var l []api.Trial
	for _, n := range numbers {
		l = append(l, api.Trial{Number: n})
	}
	return l
}

// bought tries all sets.
func bought(l []api.Trial, prices []int, money int) []int {
	var best []int
	least := 0
	for set := range 1 << len(l) {
		var list []int
		price, number := 0, 0
		for i := range l {
			if set>>i&1 == 1 {
				list = append(list, i)
				price += prices[i]
				number += l[i].Number
			}
		}
		if price > money || len(list) < len(best) {
			continue
		}
		if len(list) > len(best) || number < least || number == least && slices.Compare(list, best) < 0 {
			best, least = list, number
		}
	}
	return best
}

func anySale(r *rand.Rand, count int) (l []api.Trial, prices []int, money int) {
	mostNumber, mostPrice := []int{2, 10, 1000, 1000000000000}[r.IntN(4)], []int{0, 3, 20, 1000000}[r.IntN(4)]
	for range count {
		l = append(l, api.Trial{Name: "any", Number: r.IntN(mostNumber + 1)})
		prices = append(prices, r.IntN(mostPrice+1))
	}
	return l, prices, r.IntN(mostPrice*count + 2)
}

// P6.4
func TestBought(t *testing.T) {
	r := random()
	lengths := map[int]int{}
	for range 20000 {
		l, prices, money := anySale(r, 1+r.IntN(8))
		want := bought(l, prices, money)
		got, e := rate.Bought(l, prices, money)
		if !slices.Equal(got, want) || e != api.OK {
			t.Fatal(l, prices, money, got, e, want)
		}
		lengths[len(want)]++
	}
	if len(lengths) != 9 {
		t.Error("hardly tried", lengths)
	}
	for range 20 {
		l, prices, money := anySale(r, 16)
		if got, e := rate.Bought(l, prices, money); !slices.Equal(got, bought(l, prices, money)) || e != api.OK {
			t.Fatal(l, prices, money, got, e)
		}
	}
}

func TestKnownPurchases(t *testing.T) {
	for _, c := range []struct {
		numbers, prices []int
		money           int
		want            []int
	}{
		{[]int{5}, []int{10}, 9, nil}, {[]int{5}, []int{10}, 10, []int{0}}, {[]int{5}, []int{0}, 0, []int{0}}, {[]int{5}, []int{1}, 0, nil},
		{[]int{5, 6, 7}, []int{1, 0, 0}, 0, []int{1, 2}},             // nothing is paid for what costs nothing
		{[]int{1, 90, 90}, []int{10, 5, 5}, 10, []int{1, 2}},         // more before better
		{[]int{9, 8, 7}, []int{1, 1, 1}, 1, []int{2}},                // better before cheaper or earlier
		{[]int{9, 8, 7}, []int{1, 1, 5}, 5, []int{0, 1}},             // as many as can be
		{[]int{7, 7, 7, 7}, []int{5, 1, 1, 1}, 6, []int{1, 2, 3}},    // the cheaper ones, as they are more
		{[]int{7, 7, 7}, []int{1, 1, 1}, 2, []int{0, 1}},             // the first list
		{[]int{4, 2, 3, 1}, []int{1, 1, 1, 1}, 2, []int{1, 3}},       // ascending
		{[]int{3, 1, 2, 2}, []int{1, 1, 1, 1}, 2, []int{1, 2}},       // the first list of those with the least sum
		{[]int{2, 1, 2, 1, 0}, []int{1, 2, 2, 1, 3}, 3, []int{1, 3}}, // all the money, though other two are cheaper
		{[]int{0, 0}, []int{1000000, 1000000}, 1000000000, []int{0, 1}},
		{[]int{1000000000000, 1000000000000}, []int{1000000, 1000000}, 1999999, []int{0}},
	} {
		if got, e := rate.Bought(trials(c.numbers...), c.prices, c.money); !slices.Equal(got, c.want) || e != api.OK {
			t.Error(c, got, e)
		}
	}
	all := make([]int, 16)
	if got, e := rate.Bought(make([]api.Trial, 16), all, 0); !slices.Equal(got, []int{0, 1, 2, 3, 4, 5, 6, 7, 8, 9, 10, 11, 12, 13, 14, 15}) || e != api.OK {
		t.Error("all for nothing", got, e)
	}
	// Only the Number of a trial matters: they need be no boxes' trials.
	odd := []api.Trial{{Name: "A", Least: 9, Greatest: -9, Leap: -1, Number: 5}, {Name: "A", Least: math.MinInt, Greatest: math.MaxInt, Leap: math.MinInt, Number: 4}}
	if got, e := rate.Bought(odd, []int{1, 1}, 1); !slices.Equal(got, []int{1}) || e != api.OK {
		t.Error("any trials", got, e)
	}
}

func TestBoughtErrors(t *testing.T) {
	for _, c := range []struct {
		l      []api.Trial
		prices []int
		money  int
	}{
		{nil, nil, 5}, {trials(), []int{}, 0}, {nil, []int{1}, 5}, {trials(1), nil, 5}, {trials(1), []int{1, 1}, 5}, {trials(1, 2), []int{1}, 5}, {make([]api.Trial, 17), make([]int, 17), 5}, {make([]api.Trial, 17), make([]int, 16), 5}, {make([]api.Trial, 16), make([]int, 17), 5}, {make([]api.Trial, 1000), make([]int, 1000), 5},
		{trials(-1), []int{1}, 5}, {trials(1, -1), []int{1, 1}, 5}, {trials(1000000000001), []int{1}, 5}, {trials(5, math.MaxInt), []int{1, 1}, 5}, {trials(math.MinInt), []int{1}, 5},
		{trials(1), []int{-1}, 5}, {trials(1, 2), []int{1, -1}, 5}, {trials(1), []int{1000001}, 5}, {trials(1, 2), []int{0, math.MaxInt}, 5}, {trials(1), []int{math.MinInt}, 5},
		{trials(1), []int{1}, -1}, {trials(1), []int{1}, 1000000001}, {trials(1), []int{1}, math.MinInt}, {trials(1), []int{1}, math.MaxInt},
	} {
		if got, e := rate.Bought(c.l, c.prices, c.money); len(got) != 0 || e != api.ErrRange {
			t.Error(c, got, e)
		}
	}
}

// plays are those of the boxes but the first one, but the second one and but the third one.
func plays(l []api.Box) [3]int {
	of := func(a, b api.Box) int {
		var apart []int
		for i := range a.Errors {
			apart = append(apart, a.Errors[i]-b.Errors[i])
		}
		return slices.Max(apart) - slices.Min(apart)
	}
	return [3]int{of(l[1], l[2]), of(l[0], l[2]), of(l[0], l[1])}
}

func TestOdd(t *testing.T) {
	a, b, c := box("a", 0, 0, 0), box("b", 5, 5, 6), box("c", 9, 0, 90)
	for _, l := range [][]api.Box{{a, b, c}, {a, c, b}, {c, a, b}, {b, a, c}, {b, c, a}, {c, b, a}} {
		want := slices.IndexFunc(l, func(x api.Box) bool { return x.Name == "c" })
		if i, e := rate.Odd(l); i != want || e != api.OK {
			t.Error(l, i, e)
		}
	}
	for _, l := range [][]api.Box{
		{box("a", 1, 2), box("b", 1, 2), box("c", 1, 2)}, // all go alike
		{box("a", 0, 1), box("b", 0, 2), box("c", 0, 3)}, // two pairs have the least play
		{box("a", -7, 7), box("b", 3, 3), box("c", 7, -7)},
	} {
		if i, e := rate.Odd(l); i != 0 || e != api.ErrNone {
			t.Error(l, i, e)
		}
	}
	r := random()
	found := map[int]int{}
	for range 20000 {
		count := 2 + r.IntN(5)
		l := anyBoxes(r, 3, count, count)
		p := plays(l)
		want, wantError := 0, api.ErrNone
		for i, n := range p {
			if n < p[(i+1)%3] && n < p[(i+2)%3] {
				want, wantError = i, api.OK
			}
		}
		i, e := rate.Odd(l)
		if i != want || e != wantError {
			t.Fatal(l, i, e)
		}
		found[i+10*int(e)]++
	}
	if len(found) != 4 || found[10*int(api.ErrNone)] < 100 {
		t.Error("hardly tried", found)
	}
}

func TestOddErrors(t *testing.T) {
	for _, l := range badLists() {
		if i, e := rate.Odd(l); i != 0 || e != api.ErrInvalid {
			t.Error(len(l), i, e)
		}
	}
	r := random()
	for _, n := range []int{1, 2, 4, 5, 16} {
		if i, e := rate.Odd(anyBoxes(r, n, 9, 9)); i != 0 || e != api.ErrRange {
			t.Error(n, i, e)
		}
	}
	for at := range 3 {
		for _, count := range []int{2, 8, 10, 400} {
			l := anyBoxes(r, 3, 9, 9)
			l[at] = anyBox(r, "other", count)
			if i, e := rate.Odd(l); i != 0 || e != api.ErrRange {
				t.Error(at, count, i, e)
			}
		}
	}
}
