package flag_test

import (
	"fmt"
	"math"
	"math/rand/v2"
	"slices"
	"strings"

	"noongun/api"
)

const allFlags = 8191

// The least and the greatest int, and numbers on both sides of each limit.
var extremes = []int{
	math.MinInt, math.MinInt + 1, -10000, -9999, -10, -2, -1, 0, 1, 2, 3, 4, 5, 9, 10, 11, 12, 13, 14, 63, 64, 99, 100, 999, 1000, 1023, 1024, 7168,
	8190, 8191, 8192, 9998, 9999, 10000, 16383, 65536, math.MaxInt32, 1 << 62, math.MaxInt - 1, math.MaxInt,
}

func random() *rand.Rand {
	return rand.New(rand.NewPCG(1817, 1857))
}

// lists are all lists of a length of the numbers from lo to hi, in ascending order.
func lists(length, lo, hi int) [][]int {
	if length == 0 {
		return [][]int{{}}
	}
	var l [][]int
	for _, begin := range lists(length-1, lo, hi) {
		for n := lo; n <= hi; n++ {
			l = append(l, append(slices.Clone(begin), n))
		}
	}
	return l
}

// everyNumber are all lists of digits that are valid.
func everyNumber() [][]int {
	return slices.Concat(lists(1, 0, 9), lists(2, 0, 9), lists(3, 0, 9), lists(4, 0, 9))
}

// validHoist, means, usual and setOf are by the letter of the chapter.
func validHoist(h []int) bool {
	if len(h) < 1 || len(h) > 4 {
		return false
	}
	for i, f := range h {
		if f < 0 || f > 12 || slices.Contains(h[:i], f) {
			return false
		}
		for k := 1; k <= 3; k++ {
			if f == 9+k && i+1 <= k {
				return false
			}
		}
	}
	return true
}

func means(h []int) []int {
	var l []int
	for _, f := range h {
		switch f {
		case 10:
			l = append(l, l[0])
		case 11:
			l = append(l, l[1])
		case 12:
			l = append(l, l[2])
		default:
			l = append(l, f)
		}
	}
	return l
}

func usual(digits []int) []int {
	var h []int
	for i, d := range digits {
		f := d
		for k := 1; slices.Contains(h, f); k++ {
			if k <= i && digits[k-1] == d && !slices.Contains(h, 9+k) {
				f = 9 + k
			}
		}
		h = append(h, f)
	}
	return h
}

func setOf(h []int) int {
	set := 0
	for f := range 13 {
		if slices.Contains(h, f) {
			set += int(math.Pow(2, float64(f)))
		}
	}
	return set
}

func subset(part, of int) bool {
	return part&of == part
}

// everyHoist are all valid hoists, in ascending order for each number that they mean (as a text).
func everyHoist() map[string][][]int {
	all := map[string][][]int{}
	for length := 1; length <= 4; length++ {
		for _, h := range lists(length, 0, 12) {
			if validHoist(h) {
				number := fmt.Sprint(means(h))
				all[number] = append(all[number], h)
			}
		}
	}
	return all
}

func badDigits() [][]int {
	l := [][]int{nil, {}, {1, 2, 3, 4, 5}, {0, 0, 0, 0, 0}, make([]int, 1000)}
	for _, n := range []int{math.MinInt, -1, 10, 11, 12, 13, math.MaxInt} {
		l = append(l, []int{n}, []int{n, 0}, []int{0, n}, []int{1, 2, n}, []int{1, 2, 3, n}, []int{n, 1, 2, 3}, []int{1, n, 2, 3})
	}
	return l
}

func badHoists() [][]int {
	l := [][]int{
		nil, {}, {1, 2, 3, 4, 5}, {1, 10, 11, 12, 2}, make([]int, 1000), {10}, {11}, {12}, {10, 1}, {1, 11}, {1, 12}, {1, 2, 12}, {1, 11, 10}, {1, 12, 10}, {1, 2, 12, 10}, {12, 11, 10}, {10, 11, 12},
		{1, 1}, {0, 0}, {1, 2, 1}, {1, 10, 10}, {1, 10, 2, 10}, {1, 2, 11, 11}, {1, 2, 3, 1},
	}
	for _, n := range []int{math.MinInt, -1, 13, 64, math.MaxInt} {
		l = append(l, []int{n}, []int{n, 0}, []int{0, n}, []int{1, 2, n}, []int{1, 2, 3, n}, []int{n, 1, 2, 3}, []int{1, n, 2, 3}, []int{n, n})
	}
	return l
}

func badSets() []int {
	return []int{math.MinInt, -8192, -8191, -1, 8192, 8193, 16383, 1 << 62, math.MaxInt}
}

func badNumbers() []int {
	return []int{math.MinInt, math.MinInt + 1, -9999, -1, 10000, 10001, 99999, math.MaxInt - 1, math.MaxInt}
}

func badTexts() []string {
	return []string{"", "\n", "a\n", "\na", "\x1f", "a\x1f", "\x7f", "a\x7fb", "\x80", "é", "a\x00", "\t", "\r", "\xff", strings.Repeat("a", 61), strings.Repeat(" ", 61), strings.Repeat("a", 100000)}
}

// signals is a book with what the chapter's functions look for.
func signals() []api.Meaning {
	return []api.Meaning{
		{Number: 0, Text: "nil"}, {Number: 7, Text: "yes"}, {Number: 11, Text: "time"}, {Number: 12, Text: "ball"}, {Number: 21, Text: "gun"}, {Number: 110, Text: "wind"}, {Number: 120, Text: " at noon "},
		{Number: 1211, Text: "yes"}, {Number: 1221, Text: "slow  by"}, {Number: 1234, Text: " "}, {Number: 4321, Text: "~"}, {Number: 9999, Text: "fault"},
	}
}

// anyBook has a number of meanings, of numbers below a limit.
func anyBook(r *rand.Rand, count, below int) []api.Meaning {
	var b []api.Meaning
	numbers := r.Perm(below)[:count]
	slices.Sort(numbers)
	for _, n := range numbers {
		b = append(b, api.Meaning{Number: n, Text: anyText(r)})
	}
	return b
}

func anyText(r *rand.Rand) string {
	length := 1 + r.IntN(60)
	if r.IntN(2) == 0 {
		length = 1 + r.IntN(2)
	}
	first, kinds := ' ', 95
	if r.IntN(2) == 0 {
		first, kinds = 'a', 2
	}
	s := make([]byte, length)
	for i := range s {
		s[i] = byte(first) + byte(r.IntN(kinds))
	}
	return string(s)
}

func badBooks() [][]api.Meaning {
	good := api.Meaning{Number: 5000, Text: "good"}
	l := [][]api.Meaning{{good, good}, {good, {Number: 4999, Text: "less"}}, {{Number: 1, Text: "a"}, {Number: 3, Text: "b"}, {Number: 2, Text: "c"}}, {{Number: 1, Text: "a"}, {Number: 1, Text: "b"}}, {{}}}
	for _, n := range badNumbers() {
		bad := api.Meaning{Number: n, Text: "bad"}
		l = append(l, []api.Meaning{bad}, []api.Meaning{good, bad}, []api.Meaning{bad, good})
	}
	for _, s := range badTexts() {
		l = append(l, []api.Meaning{{Number: 5, Text: s}}, []api.Meaning{good, {Number: 5001, Text: s}}, []api.Meaning{{Number: 5, Text: s}, good})
	}
	for _, count := range []int{201, 202, 1000} {
		l = append(l, anyBook(random(), count, 10000))
	}
	return append(l, make([]api.Meaning, 100000))
}
