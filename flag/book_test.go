package flag_test

import (
	"fmt"
	"math"
	"slices"
	"strconv"
	"strings"
	"testing"

	"noongun/api"
	"noongun/flag"
)

func TestValidBook(t *testing.T) {
	r := random()
	for _, b := range [][]api.Meaning{
		nil, {}, signals(), {{Number: 0, Text: " "}}, {{Number: 9999, Text: "~"}}, {{Number: 5, Text: strings.Repeat("x", 60)}}, {{Number: 5, Text: strings.Repeat(" ", 60)}}, {{Number: 5, Text: "same"}, {Number: 6, Text: "same"}},
		anyBook(r, 200, 200), anyBook(r, 200, 10000), anyBook(r, 199, 10000),
	} {
		if !flag.ValidBook(b) {
			t.Error(b)
		}
	}
	for _, b := range badBooks() {
		if flag.ValidBook(b) {
			t.Error(b)
		}
	}
	for b := range 256 { // each byte by itself and among others
		want := b >= 32 && b <= 126
		for _, s := range []string{"%", "%a", "a%", "aa%aa"} {
			s = strings.ReplaceAll(s, "%", string([]byte{byte(b)}))
			if got := flag.ValidBook([]api.Meaning{{Number: 5, Text: s}}); got != want {
				t.Errorf("%q: %v", s, got)
			}
		}
	}
}

func TestLook(t *testing.T) {
	for _, c := range []struct {
		h    []int
		want string
		e    api.Errno
	}{
		{[]int{0}, "nil", api.OK}, {[]int{7}, "yes", api.OK}, {[]int{1, 10}, "time", api.OK}, {[]int{1, 2}, "ball", api.OK}, {[]int{1, 2, 10, 12}, "yes", api.OK}, {[]int{1, 2, 0}, " at noon ", api.OK}, {[]int{1, 2, 11, 10}, "slow  by", api.OK}, {[]int{9, 10, 11, 12}, "fault", api.OK},
		{[]int{8}, "", api.ErrNone}, {[]int{9, 10}, "", api.ErrNone}, {[]int{0, 7}, "", api.ErrNone}, {[]int{0, 10}, "", api.ErrNone}, {[]int{0, 10, 11}, "", api.ErrNone}, {[]int{0, 10, 11, 12}, "", api.ErrNone}, {[]int{0, 10, 7}, "", api.ErrNone}, {[]int{0, 1, 2}, "", api.ErrNone}, {[]int{0, 1, 11}, "", api.ErrNone},
	} {
		if got, e := flag.Look(signals(), c.h); got != c.want || e != c.e {
			t.Error(c, got, e)
		}
	}
	if got, e := flag.Look(nil, []int{0}); got != "" || e != api.ErrNone {
		t.Error("the empty book", got, e)
	}
}

func TestLookAtAllHoists(t *testing.T) {
	r := random()
	books := [][]api.Meaning{signals(), anyBook(r, 200, 200), anyBook(r, 200, 10000)}
	for number, hoists := range everyHoist() {
		digits := strings.ReplaceAll(strings.Trim(number, "[]"), " ", "")
		for _, b := range books {
			want, wantError := "", api.ErrNone
			for _, m := range b {
				if strconv.Itoa(m.Number) == digits {
					want, wantError = m.Text, api.OK
				}
			}
			if got, e := flag.Look(b, hoists[0]); got != want || e != wantError {
				t.Fatal(number, got, e)
			}
		}
	}
}

func TestFind(t *testing.T) {
	for _, c := range []struct {
		text string
		want int
		e    api.Errno
	}{
		{"nil", 0, api.OK}, {"yes", 7, api.OK}, {"fault", 9999, api.OK}, {" at noon ", 120, api.OK}, {" ", 1234, api.OK}, {"~", 4321, api.OK}, {"slow  by", 1221, api.OK},
		{"at noon", 0, api.ErrNone}, {"slow by", 0, api.ErrNone}, {"", 0, api.ErrNone}, {"YES", 0, api.ErrNone}, {"yes ", 0, api.ErrNone}, {"ye", 0, api.ErrNone}, {"\n", 0, api.ErrNone}, {strings.Repeat("a", 100000), 0, api.ErrNone},
	} {
		if got, e := flag.Find(signals(), c.text); got != c.want || e != c.e {
			t.Error(c, got, e)
		}
	}
	if got, e := flag.Find(nil, "yes"); got != 0 || e != api.ErrNone {
		t.Error("the empty book", got, e)
	}
	r := random()
	for range 300 {
		b := anyBook(r, 1+r.IntN(200), 10000)
		for _, m := range b {
			least := slices.IndexFunc(b, func(n api.Meaning) bool { return n.Text == m.Text })
			if got, e := flag.Find(b, m.Text); got != b[least].Number || e != api.OK {
				t.Fatal(b, m, got, e)
			}
		}
	}
}

func TestClose(t *testing.T) {
	for d, want := range map[int][][2]int{
		1: nil,
		2: {{0, 7}, {11, 12}, {11, 21}, {110, 120}, {1211, 1221}},
		3: {{0, 7}, {11, 12}, {11, 21}, {12, 21}, {110, 120}, {1211, 1221}, {1211, 1234}, {1221, 1234}, {1221, 4321}},
		4: {{0, 7}, {11, 12}, {11, 21}, {12, 21}, {110, 120}, {1211, 1221}, {1211, 1234}, {1211, 4321}, {1221, 1234}, {1221, 4321}},
	} {
		if got, e := flag.Close(signals(), d); !slices.Equal(got, want) || e != api.OK {
			t.Error(d, got, e)
		}
	}
	r := random()
	for _, below := range []int{200, 300, 1200, 10000} {
		for _, count := range []int{1, 2, 20, 200} {
			b := anyBook(r, count, below)
			for d := 1; d <= 4; d++ {
				want := pairsWith(b, func(x, y int) bool { return distance(x, y) < d })
				if got, e := flag.Close(b, d); !slices.Equal(got, want) || e != api.OK {
					t.Fatal(b, d, got, e)
				}
			}
		}
	}
	if got, e := flag.Close(nil, 4); len(got) != 0 || e != api.OK {
		t.Error("the empty book", got, e)
	}
}

// pairsWith tries all pairs, a lesser number and a greater one, in ascending order.
func pairsWith(b []api.Meaning, asked func(x, y int) bool) [][2]int {
	var l [][2]int
	for _, m := range b {
		for _, n := range b {
			if m.Number < n.Number && asked(m.Number, n.Number) {
				l = append(l, [2]int{m.Number, n.Number})
			}
		}
	}
	slices.SortFunc(l, func(p, q [2]int) int { return slices.Compare(p[:], q[:]) })
	return l
}

func TestTraps(t *testing.T) {
	numbers := func(l ...int) []api.Meaning {
		var b []api.Meaning
		for _, n := range l {
			b = append(b, api.Meaning{Number: n, Text: "a"})
		}
		return b
	}
	for _, c := range []struct {
		b    []api.Meaning
		want [][2]int
	}{
		{signals(), [][2]int{{12, 21}, {1234, 4321}}}, {nil, nil}, {numbers(0), nil}, {numbers(11, 121, 1221), nil}, // no Number is its own partner
		{numbers(0, 1, 10, 100, 1000), nil}, {numbers(2, 20), nil}, {numbers(21, 120), nil}, {numbers(12, 120, 210, 1200), nil}, // turned, these begin with 0
		{numbers(12, 21), [][2]int{{12, 21}}}, {numbers(102, 201), [][2]int{{102, 201}}}, {numbers(1002, 2001), [][2]int{{1002, 2001}}}, {numbers(12, 13, 21, 31), [][2]int{{12, 21}, {13, 31}}}, {numbers(13, 21, 31), [][2]int{{13, 31}}}, {numbers(1234, 1243, 3421), [][2]int{{1243, 3421}}},
	} {
		if got, e := flag.Traps(c.b); !slices.Equal(got, c.want) || e != api.OK {
			t.Error(c, got, e)
		}
	}
	mirrored := func(x, y int) bool {
		s := []byte(strconv.Itoa(x))
		slices.Reverse(s)
		return string(s) == strconv.Itoa(y)
	}
	r := random()
	found := 0
	for range 40 {
		b := anyBook(r, 200, []int{200, 400, 1100, 10000}[r.IntN(4)])
		want := pairsWith(b, mirrored)
		found += len(want)
		if got, e := flag.Traps(b); !slices.Equal(got, want) || e != api.OK {
			t.Fatal(b, got, e)
		}
	}
	if found < 100 {
		t.Error("hardly tried", found)
	}
}

func TestLost(t *testing.T) {
	for _, c := range []struct {
		flags int
		want  []int
	}{
		{allFlags, nil}, {0, []int{0, 7, 11, 12, 21, 110, 120, 1211, 1221, 1234, 4321, 9999}}, {allFlags &^ 1024, []int{11, 110, 1211, 1221, 9999}}, {allFlags &^ 2048, []int{1221, 9999}}, {allFlags &^ 4096, []int{1211, 9999}}, {allFlags &^ 128, []int{7}},
		{7, []int{7, 11, 110, 1211, 1221, 1234, 4321, 9999}}, {1023, []int{11, 110, 1211, 1221, 9999}},
	} {
		if got, e := flag.Lost(signals(), c.flags); !slices.Equal(got, c.want) || e != api.OK {
			t.Error(c, got, e)
		}
	}
	every := everyHoist()
	r := random()
	for range 200 {
		b, flags := anyBook(r, r.IntN(201), 10000), r.IntN(8192)
		var want []int
		for _, m := range b {
			var digits []int
			for _, d := range strconv.Itoa(m.Number) {
				digits = append(digits, int(d-'0'))
			}
			if !subset(setOf(every[fmt.Sprint(digits)][0]), flags) {
				want = append(want, m.Number)
			}
		}
		if got, e := flag.Lost(b, flags); !slices.Equal(got, want) || e != api.OK {
			t.Fatal(b, flags, got, e)
		}
	}
}

func TestBookErrors(t *testing.T) {
	for _, b := range badBooks() {
		for _, n := range []int{0, 1, 4, 5, -1, 8191, 8192, math.MaxInt} { // ErrInvalid before ErrRange
			checkBadBook(t, b, n)
		}
	}
	for _, h := range badHoists() {
		for _, b := range [][]api.Meaning{nil, signals()} { // before ErrNone
			if s, e := flag.Look(b, h); s != "" || e != api.ErrInvalid {
				t.Error(h, s, e)
			}
		}
	}
	for _, d := range []int{math.MinInt, -1, 0, 5, 6, math.MaxInt} {
		for _, b := range [][]api.Meaning{nil, signals()} {
			if l, e := flag.Close(b, d); len(l) != 0 || e != api.ErrRange {
				t.Error(d, l, e)
			}
		}
	}
	for _, flags := range badSets() {
		for _, b := range [][]api.Meaning{nil, signals()} {
			if l, e := flag.Lost(b, flags); len(l) != 0 || e != api.ErrRange {
				t.Error(flags, l, e)
			}
		}
	}
}

func checkBadBook(t *testing.T, b []api.Meaning, n int) {
	t.Helper()
	for _, h := range [][]int{{5}, {8}, {10}, nil} {
		if s, e := flag.Look(b, h); s != "" || e != api.ErrInvalid {
			t.Error("Look", len(b), h, s, e)
		}
	}
	for _, text := range []string{"good", "bad", "", "none"} {
		if m, e := flag.Find(b, text); m != 0 || e != api.ErrInvalid {
			t.Error("Find", len(b), text, m, e)
		}
	}
	if l, e := flag.Close(b, n); len(l) != 0 || e != api.ErrInvalid {
		t.Error("Close", len(b), n, l, e)
	}
	if l, e := flag.Traps(b); len(l) != 0 || e != api.ErrInvalid {
		t.Error("Traps", len(b), l, e)
	}
	if l, e := flag.Lost(b, n); len(l) != 0 || e != api.ErrInvalid {
		t.Error("Lost", len(b), n, l, e)
	}
}
