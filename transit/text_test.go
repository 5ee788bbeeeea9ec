package transit_test

import (
	"fmt"
	"math/rand/v2"
	"regexp"
	"slices"
	"strconv"
	"strings"
	"testing"

	"noongun/api"
	"noongun/transit"
)

const exampleText = "vega 67000000 -500 1300\nx_1 0 0 1000\n"

func example() []api.Star {
	return []api.Star{{Name: "vega", Ascension: 67000000, Shift: -500, Slow: 1300}, {Name: "x_1", Slow: 1000}}
}

func textOf(l []api.Star) string {
	s := ""
	for _, star := range l {
		s += fmt.Sprintf("%s %d %d %d\n", star.Name, star.Ascension, star.Shift, star.Slow)
	}
	return s
}

const number = `(0|-?[1-9][0-9]*)`

var starLine = regexp.MustCompile(`\A([a-z][a-z0-9_]{0,15}) ` + number + ` ` + number + ` ` + number + `\n\z`)

// parsed is what Parse must return, line by line: no text of Format begins with a line that is not as it should be behind those before.
func parsed(s string) (l []api.Star, line int, e api.Errno) {
	if len(s) > 65536 {
		return nil, 0, api.ErrLong
	}
	for k, text := range strings.SplitAfter(s, "\n") {
		if text == "" {
			break
		}
		m := starLine.FindStringSubmatch(text)
		if m == nil || k >= 100 {
			return nil, k, api.ErrSyntax
		}
		var numbers [3]int
		for i := range numbers {
			n, err := strconv.Atoi(m[i+2])
			if err != nil {
				return nil, k, api.ErrSyntax
			}
			numbers[i] = n
		}
		if numbers[0] < 0 || numbers[0] > 86399999 || numbers[1] < -10000 || numbers[1] > 10000 || numbers[2] < 1000 || numbers[2] > 10000 {
			return nil, k, api.ErrSyntax
		}
		l = append(l, api.Star{Name: m[1], Ascension: numbers[0], Shift: numbers[1], Slow: numbers[2]})
	}
	return l, 0, api.OK
}

func checkParse(t *testing.T, s string) api.Errno {
	t.Helper()
	want, wantLine, wantError := parsed(s)
	l, line, e := transit.Parse(s)
	if !slices.Equal(l, want) || line != wantLine || e != wantError {
		t.Fatalf("Parse(%.200q) = %v, %d, %d, not %v, %d, %d", s, l, line, e, want, wantLine, wantError)
	}
	if e == api.OK && transit.Format(l) != s {
		t.Fatalf("Format(%v) is not %q", l, s)
	}
	return e
}

func stars(n int) []api.Star {
	r := random()
	var l []api.Star
	for range n {
		l = append(l, anyStar(r))
	}
	return l
}

func TestFormatAndBack(t *testing.T) {
	if s := transit.Format(example()); s != exampleText {
		t.Errorf("%q", s)
	}
	if s := transit.Format(nil); s != "" {
		t.Errorf("%q", s)
	}
	if l, line, e := transit.Parse(""); len(l) != 0 || line != 0 || e != api.OK {
		t.Error("the empty text", l, line, e)
	}
	far := []api.Star{{Name: "abcdefghijklmnop", Ascension: api.Day - 1, Shift: -10000, Slow: 10000}, {Name: "a", Ascension: 0, Shift: 10000, Slow: 1000}}
	if s := transit.Format(far); s != "abcdefghijklmnop 86399999 -10000 10000\na 0 10000 1000\n" {
		t.Errorf("%q", s)
	}
	for n := range 101 {
		l := stars(n)
		s := transit.Format(l)
		if s != textOf(l) {
			t.Errorf("%q", s)
		}
		if got, line, e := transit.Parse(s); !slices.Equal(got, l) || line != 0 || e != api.OK {
			t.Error(n, got, line, e)
		}
		checkParse(t, s)
	}
	// a star may be there twice
	if e := checkParse(t, exampleText+exampleText); e != api.OK {
		t.Error("twice", e)
	}
}

func TestNoTexts(t *testing.T) {
	for _, n := range []int{101, 102, 5000} {
		if s := transit.Format(stars(n)); s != "" {
			t.Errorf("%d stars: %.50q", n, s)
		}
	}
	for _, bad := range badStars() {
		for _, l := range [][]api.Star{{bad}, append(example(), bad), append([]api.Star{bad}, example()...)} {
			if s := transit.Format(l); s != "" {
				t.Errorf("%v: %q", l, s)
			}
			if checkParse(t, textOf(l)) != api.ErrSyntax {
				t.Error(l)
			}
		}
	}
}

func TestFirstWrongLine(t *testing.T) {
	hundred := textOf(stars(100))
	for _, c := range []struct {
		s    string
		line int
	}{
		{"\n", 0}, {" ", 0}, {"a", 0}, {"a 0 0 1000", 0}, {"a 0 0 1000 \n", 0}, {"a 0 0  1000\n", 0}, {" a 0 0 1000\n", 0}, {"a 0 0\n", 0}, {"a 0 0 1000 5\n", 0}, {"0 0 1000\n", 0}, {"a\n", 0},
		{"A 0 0 1000\n", 0}, {"1 0 0 1000\n", 0}, {"a- 0 0 1000\n", 0}, {"abcdefghijklmnopq 0 0 1000\n", 0}, {" 0 0 1000\n", 0},
		{"a -1 0 1000\n", 0}, {"a 86400000 0 1000\n", 0}, {"a 0 -10001 1000\n", 0}, {"a 0 10001 1000\n", 0}, {"a 0 0 999\n", 0}, {"a 0 0 10001\n", 0}, {"a 0 0 -1000\n", 0},
		{"a 00 0 1000\n", 0}, {"a 0 -0 1000\n", 0}, {"a 0 +0 1000\n", 0}, {"a 0 05 1000\n", 0}, {"a 0 -05 1000\n", 0}, {"a 0 0 01000\n", 0}, {"a 0 0 +1000\n", 0}, {"a 0 0 1_000\n", 0}, {"a 0 0 1e3\n", 0}, {"a 0 0 0x3e8\n", 0},
		{"a 0 0 1000\r\n", 0}, {"a\t0 0 1000\n", 0}, {"a 0 0 1000\n\n", 1}, {"a 0 0 1000\na", 1}, {"a 0 0 1000\n\na 0 0 1\n", 1}, {"a 99999999999999999999 0 1000\n", 0}, {"a 0 -99999999999999999999 1000\n", 0},
		{exampleText + "a 0 0 1000", 2}, {exampleText + "\x00", 2}, {exampleText + "a 0 0 999\nb", 2}, {exampleText[:len(exampleText)-1], 1},
		{hundred + "a 0 0 1000\n", 100}, {hundred + "x", 100}, {hundred + "\n", 100}, {hundred + "\n\n", 100}, {hundred[:len(hundred)-1], 99}, {hundred + exampleText + "\n", 100}, {strings.Repeat("a 0 0 1000\n", 2000), 100}, {strings.Repeat("a 0 0 1000\n", 50) + "x\n" + hundred, 50},
	} {
		if l, line, e := transit.Parse(c.s); len(l) != 0 || line != c.line || e != api.ErrSyntax {
			t.Errorf("Parse(%.200q) = %v, %d, %d, not line %d", c.s, l, line, e, c.line)
		}
		checkParse(t, c.s)
	}
}

func TestLongTexts(t *testing.T) {
	for _, s := range []string{exampleText, "a 0 0 1000\n", "\n", "0", " ", "a"} {
		for length := api.MaxText - 1; length <= api.MaxText+1; length++ {
			long := strings.Repeat(s, length/len(s)+1)[:length]
			want := api.ErrSyntax
			if length > api.MaxText {
				want = api.ErrLong
			}
			if e := checkParse(t, long); e != want {
				t.Errorf("%q, %d: %d", s, length, e)
			}
		}
	}
	if e := checkParse(t, "a "+strings.Repeat("0 ", 32000)+"\n"); e != api.ErrSyntax {
		t.Error("a long line", e)
	}
	if e := checkParse(t, strings.Repeat(exampleText, 100000)); e != api.ErrLong {
		t.Error("far too long", e)
	}
}

// Each byte of a text becomes each other byte, is left out and is doubled.
func TestTextsThatAreNearlyThoseOfFormat(t *testing.T) {
	met := map[api.Errno]int{}
	for _, s := range []string{exampleText, "abcdefghijklmnop 86399999 -10000 10000\n"} {
		for i := range len(s) {
			for b := range 256 {
				met[checkParse(t, s[:i]+string([]byte{byte(b)})+s[i+1:])]++
				met[checkParse(t, s[:i]+string([]byte{byte(b)})+s[i:])]++
			}
			met[checkParse(t, s[:i])]++
			met[checkParse(t, s[i:])]++
			met[checkParse(t, s[:i]+s[i+1:])]++
		}
	}
	if met[api.OK] < 100 || met[api.ErrSyntax] < 10000 {
		t.Error("hardly tried", met)
	}
}

// Texts of words that are right somewhere.
func TestTextsOfWords(t *testing.T) {
	words := []string{"a", "vega", "0", "1000", "-1", "-0", "01000", "10000", "-10000", "10001", "86399999", "86400000", "", "x_9", "A"}
	r := random()
	met := map[api.Errno]int{}
	for range 20000 {
		s := ""
		for range r.IntN(4) {
			s += lineOfWords(r, words)
		}
		met[checkParse(t, s)]++
	}
	if met[api.OK] < 1000 || met[api.ErrSyntax] < 1000 {
		t.Error("hardly tried", met)
	}
}

func lineOfWords(r *rand.Rand, words []string) string {
	l := []string{"deneb", "7", "-8", "1009"}
	if r.IntN(3) > 0 {
		l[r.IntN(len(l))] = words[r.IntN(len(words))]
	}
	return strings.Join(l[:len(l)-r.IntN(8)/7], " ") + "\n"
}
