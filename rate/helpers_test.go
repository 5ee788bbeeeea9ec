package rate_test

import (
	"math"
	"math/rand/v2"
	"slices"
	"strconv"
	"strings"

	"noongun/api"
)

// The least and the greatest int, and numbers on both sides of each limit.
var extremes = []int{
	math.MinInt, math.MinInt + 1, -api.MaxTime - 1, -api.MaxTime, -api.Day - 1, -api.Day, -1000001, -1000000, -100001, -100000, -50001, -50000, -2, -1, 0, 1, 2, 3, 7, 399, 400, 401,
	50000, 50001, 100000, 100001, 1000000, 1000001, api.Day, api.Day + 1, 1000000000, 1000000001, api.MaxTime, api.MaxTime + 1, math.MaxInt - 1, math.MaxInt,
}

func random() *rand.Rand {
	return rand.New(rand.NewPCG(1761, 1714))
}

func box(name string, errors ...int) api.Box {
	return api.Box{Name: name, Errors: errors}
}

// example is the chapter's box: a week of 7 a day, and one of 8 a day.
func example() api.Box {
	return box("harrison", 0, 7, 14, 21, 28, 35, 42, 49, 57, 65, 73, 81, 89, 97, 105)
}

// weeks returns a box with these weekly rates, and some days more that make no whole week.
func weeks(r *rand.Rand, name string, rates ...int) api.Box {
	b := box(name, r.IntN(1000)-500)
	for _, rate := range rates {
		first := b.Errors[len(b.Errors)-1]
		for range 6 {
			b.Errors = append(b.Errors, first+r.IntN(100)-50)
		}
		b.Errors = append(b.Errors, first+rate)
	}
	for range r.IntN(7) {
		b.Errors = append(b.Errors, r.IntN(1000)-500)
	}
	return b
}

// anyBox has a number of errors that are as far from 0 as can be, small ones, or such that change but little from day to day.
func anyBox(r *rand.Rand, name string, count int) api.Box {
	b := box(name)
	most := []int{0, 3, 1000, api.Day}[r.IntN(4)]
	walk := r.IntN(2) == 0
	for i := range count {
		n := r.IntN(2*most+1) - most
		if walk && i > 0 {
			n = b.Errors[i-1] + n/1000
		}
		b.Errors = append(b.Errors, min(max(n, -api.Day), api.Day))
	}
	return b
}

// anyBoxes have names of their own, in no order.
func anyBoxes(r *rand.Rand, boxes, least, most int) []api.Box {
	var l []api.Box
	for _, i := range r.Perm(boxes) {
		l = append(l, anyBox(r, "box_"+strconv.Itoa(i), least+r.IntN(most-least+1)))
	}
	return l
}

func badNames() []string {
	return []string{"", "A", "aB", "1", "_", "1a", "_a", "a-", "a b", " a", "a ", "a\n", "é", "aé", "a\x00", "{", "`", "a:", "a/", "a`", "a{", "abcdefghijklmnopq", strings.Repeat("a", 1000)}
}

func badBoxes() []api.Box {
	l := []api.Box{{}, box("a"), box("a", 5), box("a", make([]int, 401)...), box("a", make([]int, 100000)...)}
	for _, name := range badNames() {
		l = append(l, box(name, 0, 1))
	}
	for _, n := range []int{math.MinInt, -86400001, 86400001, math.MaxInt} {
		l = append(l, box("a", n, 0), box("a", 0, n), box("a", 1, 2, n), box("a", n, n), box("a", 1, n, 3))
	}
	return l
}

func badLists() [][]api.Box {
	a, b := box("a", 0, 1), box("b", 5, 5, 5)
	l := [][]api.Box{nil, {}, {a, a}, {a, b, a}, {b, a, box("a", 7, 8, 9)}, {a, b, b}}
	for _, bad := range badBoxes() {
		l = append(l, []api.Box{bad}, []api.Box{a, bad}, []api.Box{bad, b}, []api.Box{box("x", 1, 2), bad, box("y", 1, 2)})
	}
	for _, n := range []int{17, 18, 1000} {
		l = append(l, anyBoxes(random(), n, 2, 2))
	}
	return l
}

// daily, weekly and trial are by the letter of the chapter.
func daily(b api.Box) []int {
	var l []int
	for i := 0; i+1 < len(b.Errors); i++ {
		l = append(l, b.Errors[i+1]-b.Errors[i])
	}
	return l
}

func weekly(b api.Box) []int {
	var l []int
	for j := 0; 7*j+7 < len(b.Errors); j++ {
		l = append(l, b.Errors[7*j+7]-b.Errors[7*j])
	}
	return l
}

func trial(b api.Box) (api.Trial, api.Errno) {
	l := weekly(b)
	if len(l) < 2 {
		return api.Trial{}, api.ErrNone
	}
	leap := 0
	for j := range l[1:] {
		leap = max(leap, l[j]-l[j+1], l[j+1]-l[j])
	}
	least, greatest := slices.Min(l), slices.Max(l)
	return api.Trial{Name: b.Name, Least: least, Greatest: greatest, Leap: leap, Number: greatest - least + 2*leap}, api.OK
}

func sum(l []int) int {
	n := 0
	for _, m := range l {
		n += m
	}
	return n
}

func same(a, b api.Box) bool {
	return a.Name == b.Name && slices.Equal(a.Errors, b.Errors)
}

func none(b api.Box) bool {
	return b.Name == "" && len(b.Errors) == 0
}
