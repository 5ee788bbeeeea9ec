package night_test

import (
	"math"
	"math/rand/v2"
	"slices"
	"testing"

	"noongun/api"
	"noongun/night"
)

func difference(a, b, habit int) api.Sight {
	return api.Sight{A: a, B: b, Lo: habit, Hi: habit}
}

// habitsOf is by the letter: it takes all habits that follow from those that are known, until there are no more.
func habitsOf(observers int, l []api.Sight) ([]int, api.Errno) {
	habits, joined := make([]int, observers), true
	known := map[int]bool{}
	for first := range observers {
		if known[first] {
			continue
		}
		known[first] = true
		joined = joined && first == 0
		for range observers {
			for _, d := range l {
				if known[d.B] && !known[d.A] {
					habits[d.A], known[d.A] = habits[d.B]+d.Lo, true
				}
				if known[d.A] && !known[d.B] {
					habits[d.B], known[d.B] = habits[d.A]-d.Lo, true
				}
			}
		}
	}
	for _, d := range l {
		if habits[d.A]-habits[d.B] != d.Lo {
			return nil, api.ErrState
		}
	}
	if !joined {
		return nil, api.ErrNone
	}
	return habits, api.OK
}

// checkCircle checks what a circle must be.
func checkCircle(t *testing.T, l []api.Sight, circle []int) {
	t.Helper()
	if len(circle) < 2 || len(circle) > 100 {
		t.Fatal("its length", l, circle)
	}
	sum, begin, at := 0, -1, -1
	for _, mark := range circle {
		if mark < 0 || mark/2 >= len(l) {
			t.Fatal("no difference", l, circle)
		}
		d := l[mark/2]
		from, to, by := d.B, d.A, d.Lo
		if mark%2 == 1 {
			from, to, by = d.A, d.B, -d.Lo
		}
		if begin < 0 {
			begin = from
		} else if from != at {
			t.Fatal("does not go on", l, circle)
		}
		at = to
		sum += by
	}
	if at != begin || sum == 0 {
		t.Fatal("does not close", l, circle, sum)
	}
}

// P8.4
func checkDifferences(t *testing.T, observers int, l []api.Sight) api.Errno {
	t.Helper()
	want, wantError := habitsOf(observers, l)
	habits, e := night.Habits(observers, l)
	if !slices.Equal(habits, want) || e != wantError {
		t.Fatal("Habits", observers, l, habits, e, want, wantError)
	}
	circle, f := night.Circle(observers, l)
	if wantError != api.ErrState {
		if len(circle) != 0 || f != api.ErrNone {
			t.Fatal("Circle", observers, l, circle, f)
		}
		return e
	}
	if f != api.OK {
		t.Fatal("Circle", observers, l, f)
	}
	checkCircle(t, l, circle)
	return e
}

func TestHabitsAndCircle(t *testing.T) {
	for _, c := range []struct {
		observers int
		l         []api.Sight
		want      []int
		e         api.Errno
	}{
		{1, nil, []int{0}, api.OK}, {2, nil, nil, api.ErrNone}, {8, nil, nil, api.ErrNone}, {2, []api.Sight{difference(1, 0, 30)}, []int{0, 30}, api.OK}, {2, []api.Sight{difference(0, 1, 30)}, []int{0, -30}, api.OK},
		{3, []api.Sight{difference(2, 1, 5), difference(1, 0, -7)}, []int{0, -7, -2}, api.OK}, {3, []api.Sight{difference(2, 1, 5)}, nil, api.ErrNone}, {3, []api.Sight{difference(1, 0, 5)}, nil, api.ErrNone},
		{2, []api.Sight{difference(1, 0, 3), difference(1, 0, 3), difference(0, 1, -3)}, []int{0, 3}, api.OK}, {2, []api.Sight{difference(1, 0, 3), difference(1, 0, 4)}, nil, api.ErrState}, {2, []api.Sight{difference(1, 0, 3), difference(0, 1, 3)}, nil, api.ErrState}, {2, []api.Sight{difference(1, 0, 0), difference(0, 1, 0)}, []int{0, 0}, api.OK},
		{3, []api.Sight{difference(1, 0, 1), difference(2, 1, 1), difference(0, 2, -2)}, []int{0, 1, 2}, api.OK}, {3, []api.Sight{difference(1, 0, 1), difference(2, 1, 1), difference(0, 2, 2)}, nil, api.ErrState},
		{4, []api.Sight{difference(3, 2, 1), difference(2, 3, 1)}, nil, api.ErrState}, {4, []api.Sight{difference(3, 2, 1), difference(2, 3, -1)}, nil, api.ErrNone}, // ErrState comes before ErrNone
		{5, []api.Sight{difference(1, 0, 9), difference(3, 2, 1), difference(4, 3, 1), difference(4, 2, 3)}, nil, api.ErrState},
		{2, []api.Sight{difference(1, 0, 1000000)}, []int{0, 1000000}, api.OK}, {2, []api.Sight{difference(1, 0, -1000000)}, []int{0, -1000000}, api.OK},
		{2, []api.Sight{{At: math.MinInt, A: 1, B: 0, Lo: 4, Hi: 4}, {At: -1, A: 1, B: 0, Lo: 4, Hi: 4}, {At: math.MaxInt, A: 0, B: 1, Lo: -4, Hi: -4}}, []int{0, 4}, api.OK}, // At does not matter
		{8, []api.Sight{difference(7, 6, 1000000), difference(6, 5, 1000000), difference(5, 4, 1000000), difference(4, 3, 1000000), difference(3, 2, 1000000), difference(2, 1, 1000000), difference(1, 0, 1000000)}, []int{0, 1000000, 2000000, 3000000, 4000000, 5000000, 6000000, 7000000}, api.OK},
	} {
		if got, e := night.Habits(c.observers, c.l); !slices.Equal(got, c.want) || e != c.e {
			t.Error(c, got, e)
		}
		checkDifferences(t, c.observers, c.l)
	}
}

func TestAnyDifferences(t *testing.T) {
	r := random()
	met := map[api.Errno]int{}
	for range 20000 {
		observers := 1 + r.IntN(8)
		met[checkDifferences(t, observers, anyDifferences(r, observers))]++
	}
	if met[api.OK] < 2000 || met[api.ErrState] < 2000 || met[api.ErrNone] < 2000 {
		t.Error("hardly tried", met)
	}
}

// anyDifferences are mostly of some habits, and now and then one is not.
func anyDifferences(r *rand.Rand, observers int) []api.Sight {
	if observers == 1 {
		return nil
	}
	habits := make([]int, observers)
	for i := range habits {
		habits[i] = r.IntN(2001) - 1000
	}
	var l []api.Sight
	for range r.IntN(31) * r.IntN(31) / 30 {
		a := r.IntN(observers)
		b := (a + 1 + r.IntN(observers-1)) % observers
		l = append(l, difference(a, b, habits[a]-habits[b]))
	}
	if len(l) > 0 && r.IntN(2) == 0 {
		i := r.IntN(len(l))
		l[i].Lo += 1 + r.IntN(5)
		l[i].Hi = l[i].Lo
	}
	return l
}

// Differences all round, of which the last one is wrong.
func TestLongCircles(t *testing.T) {
	for observers := 2; observers <= 8; observers++ {
		var l []api.Sight
		for i := range observers {
			l = append(l, difference((i+1)%observers, i, 1))
		}
		circle, e := night.Circle(observers, l)
		if e != api.OK || len(circle) != observers {
			t.Error(observers, circle, e)
		}
		checkDifferences(t, observers, l)
		many := slices.Concat(l[:observers-1], slices.Repeat(l[:1], 30-observers), l[observers-1:])
		if checkDifferences(t, observers, many) != api.ErrState {
			t.Error("thirty", observers)
		}
	}
}

func TestHabitsErrors(t *testing.T) {
	check := func(observers int, l []api.Sight) {
		t.Helper()
		if habits, e := night.Habits(observers, l); len(habits) != 0 || e != api.ErrRange {
			t.Error("Habits", observers, len(l), habits, e)
		}
		if circle, e := night.Circle(observers, l); len(circle) != 0 || e != api.ErrRange {
			t.Error("Circle", observers, len(l), circle, e)
		}
	}
	for _, observers := range []int{math.MinInt, -1, 0, 9, 10, math.MaxInt} {
		check(observers, nil)
		check(observers, []api.Sight{difference(1, 0, 5)})
	}
	for _, d := range []api.Sight{
		{}, {A: 1, B: 1}, {A: 3, B: 0}, {A: 0, B: 3}, {A: -1, B: 0}, {A: 0, B: -1}, {A: math.MinInt, B: math.MaxInt}, {A: math.MaxInt, B: math.MinInt}, {A: math.MinInt, B: math.MinInt}, {A: 3, B: 3},
		{A: 1, Lo: 1, Hi: 2}, {A: 1, Lo: 2, Hi: 1}, {A: 1, Lo: -1, Hi: 1}, {A: 1, Lo: 0, Hi: math.MaxInt}, {A: 1, Lo: math.MinInt, Hi: 0}, {A: 1, Lo: math.MinInt, Hi: math.MaxInt},
		difference(1, 0, 1000001), difference(1, 0, -1000001), difference(1, 0, math.MinInt), difference(1, 0, math.MaxInt),
	} { // before ErrState and ErrNone
		check(3, []api.Sight{d})
		check(3, []api.Sight{difference(1, 0, 1), difference(1, 0, 2), d})
		check(3, []api.Sight{d, difference(1, 0, 1), difference(2, 0, 1)})
	}
	check(2, slices.Repeat([]api.Sight{difference(1, 0, 5)}, 31))
	check(3, slices.Repeat([]api.Sight{difference(1, 0, 5)}, 31))
	check(2, make([]api.Sight, 100000))
	check(1, []api.Sight{difference(1, 0, 5)})
	check(1, []api.Sight{difference(0, 0, 0)})
}
