package night_test

import (
	"cmp"
	"math"
	"math/rand/v2"
	"slices"
	"strconv"
	"strings"

	"noongun/api"
)

// The least and the greatest int, and numbers on both sides of each limit.
var extremes = []int{
	math.MinInt, math.MinInt + 1, -1000001, -1000000, -90001, -90000, -2, -1, 0, 1, 2, 3, 7, 8, 9, 11, 12, 13, 14, 19, 20, 21, 29, 30, 31, 255, 256, 257,
	9999, 10000, 10001, 90000, 90001, 1000000, 1000001, api.Day - 1, api.Day, api.Day + 1, math.MaxInt32, 1 << 62, math.MaxInt - 1, math.MaxInt,
}

func random() *rand.Rand {
	return rand.New(rand.NewPCG(1829, 1833))
}

// example are the chances of the chapter's example.
func example() []api.Chance {
	return []api.Chance{{Name: "a", From: 0, To: 100, Tilt: 0, Worth: 5}, {Name: "b", From: 90, To: 150, Tilt: 0, Worth: 9}, {Name: "c", From: 160, To: 200, Tilt: 30000, Worth: 6}}
}

// twenty are as many chances as may be, each of which follows the ones before it if the instrument is turned at 0.
func twenty() []api.Chance {
	var l []api.Chance
	for i := range 20 {
		l = append(l, api.Chance{Name: "s" + strconv.Itoa(i), From: 1000 * i, To: 1000*i + 900, Tilt: 100 * (i % 5), Worth: 1 + i%3})
	}
	return l
}

// anyChances has chances within a short time, of which some follow others.
func anyChances(r *rand.Rand, count int) []api.Chance {
	var l []api.Chance
	for _, n := range r.Perm(2 * count)[:count] {
		from := r.IntN(60)
		l = append(l, api.Chance{Name: "s" + strconv.Itoa(n), From: from, To: from + 1 + r.IntN(20), Tilt: r.IntN(7) - 3, Worth: r.IntN(5)})
	}
	inOrder(l)
	return l
}

func inOrder(l []api.Chance) {
	slices.SortFunc(l, func(a, b api.Chance) int { return cmp.Or(cmp.Compare(a.From, b.From), cmp.Compare(a.Name, b.Name)) })
}

func anyClouds(r *rand.Rand, count int) []api.Span {
	var clouds []api.Span
	for range count {
		lo := r.IntN(80)
		clouds = append(clouds, api.Span{Lo: lo, Hi: lo + r.IntN(4)})
	}
	return clouds
}

func badNames() []string {
	return []string{"", "A", "aB", "1a", "_a", " a", "a ", "a b", "a\n", "a\x00", "a-", "é", "aé", "a\xff", "{", "`", "a{", "a`", "a/", "a:", "abcdefghijklmnopq", strings.Repeat("a", 100000)}
}

// badChances are not valid, each for one thing alone.
func badChances() []api.Chance {
	l := []api.Chance{{}, {Name: "a"}, {To: 1}}
	for _, name := range badNames() {
		l = append(l, api.Chance{Name: name, From: 10, To: 20})
	}
	for _, ends := range [][2]int{
		{-1, 5}, {5, 5}, {6, 5}, {0, 0}, {api.Day, api.Day}, {0, api.Day + 1}, {api.Day, api.Day + 1}, {-5, -1}, {api.Day + 1, api.Day + 2},
		{math.MinInt, math.MaxInt}, {math.MinInt, 0}, {0, math.MaxInt}, {0, math.MinInt}, {math.MaxInt, math.MinInt}, {math.MaxInt, math.MaxInt}, {math.MinInt, math.MinInt},
	} {
		l = append(l, api.Chance{Name: "a", From: ends[0], To: ends[1]})
	}
	for _, tilt := range []int{-90001, 90001, math.MinInt, math.MaxInt} {
		l = append(l, api.Chance{Name: "a", From: 10, To: 20, Tilt: tilt})
	}
	for _, worth := range []int{-1, 1000001, math.MinInt, math.MaxInt} {
		l = append(l, api.Chance{Name: "a", From: 10, To: 20, Worth: worth})
	}
	return l
}

// badLists are lists of chances that are not valid.
func badLists() [][]api.Chance {
	var l [][]api.Chance
	for _, c := range badChances() {
		l = append(l, []api.Chance{c}, []api.Chance{{Name: "before", To: 1}, c}, []api.Chance{c, {Name: "z", From: 30, To: 40}})
	}
	of := func(name string, from int) api.Chance { return api.Chance{Name: name, From: from, To: from + 10} }
	l = append(l,
		[]api.Chance{of("a", 5), of("b", 4)}, []api.Chance{of("a", 5), of("a", 5)}, []api.Chance{of("b", 5), of("a", 5)}, []api.Chance{of("ab", 5), of("a", 5)},
		[]api.Chance{of("a", 5), of("a", 6)}, []api.Chance{of("a", 5), of("b", 6), of("a", 7)}, []api.Chance{of("a", 1), of("b", 3), of("c", 2)}, []api.Chance{of("a", 1), of("c", 2), of("b", 2)},
	)
	many := append(twenty(), api.Chance{Name: "more", From: 50000, To: 50001})
	return append(l, many, append(twenty(), twenty()...), make([]api.Chance, 100000))
}

func badClouds() [][]api.Span {
	l := [][]api.Span{make([]api.Span, 51), make([]api.Span, 100000)}
	for _, s := range []api.Span{
		{Lo: -1, Hi: 5}, {Lo: 0, Hi: api.Day + 1}, {Lo: 6, Hi: 5}, {Lo: api.Day, Hi: 0}, {Lo: api.Day + 1, Hi: api.Day + 1}, {Lo: -1, Hi: -1}, {Lo: 0, Hi: -1},
		{Lo: math.MinInt, Hi: math.MaxInt}, {Lo: math.MinInt, Hi: 0}, {Lo: 0, Hi: math.MaxInt}, {Lo: math.MaxInt, Hi: math.MinInt}, {Lo: math.MaxInt, Hi: math.MaxInt},
	} {
		l = append(l, []api.Span{s}, []api.Span{{Lo: 1000000, Hi: 1000001}, s}, []api.Span{s, {Lo: 1000000, Hi: 1000001}})
	}
	return l
}

func badPers() []int {
	return []int{math.MinInt, -10000, -1, 10001, 10002, math.MaxInt}
}

// isClear, turn, follows, isRight and worthOf are by the letter of the chapter.
func isClear(c api.Chance, clouds []api.Span) bool {
	for _, cloud := range clouds {
		for at := c.From; at <= c.To-1; at++ {
			if cloud.Lo <= at && at <= cloud.Hi {
				return false
			}
		}
	}
	return true
}

func turn(a, b api.Chance, per int) int {
	if a.Tilt > b.Tilt {
		return per * (a.Tilt - b.Tilt)
	}
	return per * (b.Tilt - a.Tilt)
}

func follows(a, b api.Chance, per int) bool {
	return b.From >= a.To+turn(a, b, per)
}

func isRight(l []api.Chance, clouds []api.Span, per int, list []int) bool {
	for k, i := range list {
		if i < 0 || i >= len(l) || !isClear(l[i], clouds) {
			return false
		}
		if k > 0 && (list[k-1] >= i || !follows(l[list[k-1]], l[i], per)) {
			return false
		}
	}
	return true
}

func worthOf(l []api.Chance, list []int) int {
	sum := 0
	for _, i := range list {
		sum += l[i].Worth
	}
	return sum
}

// subsets are all ascending lists of numbers below n.
func subsets(n int) [][]int {
	var l [][]int
	for set := range 1 << n {
		var list []int
		for i := range n {
			if set>>i&1 == 1 {
				list = append(list, i)
			}
		}
		l = append(l, list)
	}
	return l
}

// lists are all lists of a length of the numbers from lo to hi, in ascending order.
func lists(length, lo, hi int) [][]int {
	if length == 0 {
		return [][]int{{}}
	}
	var l [][]int
	for _, begin := range lists(length-1, lo, hi) {
		for n := lo; n <= hi; n++ {
			l = append(l, append(slices.Clone(begin), n))
		}
	}
	return l
}

// isBetter is what the chapter says of lists.
func isBetter(l []api.Chance, a, b []int) bool {
	if x, y := worthOf(l, a), worthOf(l, b); x != y {
		return x > y
	}
	if len(a) != len(b) {
		return len(a) < len(b)
	}
	return slices.Compare(a, b) < 0
}

// bestOf tries all lists that are wanted, and tells whether there is one.
func bestOf(l []api.Chance, clouds []api.Span, per int, wanted func(list []int) bool) ([]int, bool) {
	var best []int
	there := false
	for _, list := range subsets(len(l)) {
		if wanted(list) && isRight(l, clouds, per, list) && (!there || isBetter(l, list, best)) {
			best, there = list, true
		}
	}
	return best, there
}
