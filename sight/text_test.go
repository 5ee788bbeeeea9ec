package sight_test

import (
	"fmt"
	"math/rand/v2"
	"regexp"
	"strconv"
	"strings"
	"testing"

	"noongun/api"
	"noongun/sight"
)

const exampleText = "rates 0 10000\nsight 0 1 0 100 100\nsight 1000000 1 0 150 160\n"

func textOf(x api.Net) string {
	s := "rates"
	for _, r := range x.Rates {
		s += fmt.Sprint(" ", r)
	}
	s += "\n"
	for _, g := range x.Sights {
		s += fmt.Sprintf("sight %d %d %d %d %d\n", g.At, g.A, g.B, g.Lo, g.Hi)
	}
	return s
}

const number = `(0|-?[1-9][0-9]*)`

var (
	ratesLine = regexp.MustCompile(`\Arates( ` + number + `)+\n\z`)
	sightLine = regexp.MustCompile(`\Asight ` + number + ` ` + number + ` ` + number + ` ` + number + ` ` + number + `\n\z`)
)

// parsed is what Parse must return, line by line: no text of Format begins with a line that is not as it should be behind those before.
func parsed(s string) (x api.Net, line int, e api.Errno) {
	if len(s) > 65536 {
		return api.Net{}, 0, api.ErrLong
	}
	lines := strings.SplitAfter(s, "\n")
	if len(lines) > 1 && lines[len(lines)-1] == "" {
		lines = lines[:len(lines)-1]
	}
	for k, text := range lines {
		right := sightLine.MatchString(text)
		if k == 0 {
			right = ratesLine.MatchString(text)
		}
		var numbers []int
		for _, w := range strings.Fields(text) {
			if n, err := strconv.Atoi(w); err == nil {
				numbers = append(numbers, n)
			}
		}
		if right && k == 0 {
			x.Rates = numbers
		} else if right && len(numbers) == 5 {
			x.Sights = append(x.Sights, api.Sight{At: numbers[0], A: numbers[1], B: numbers[2], Lo: numbers[3], Hi: numbers[4]})
		}
		if !right || len(numbers) != len(strings.Fields(text))-1 || !sight.Valid(x) {
			return api.Net{}, k, api.ErrSyntax
		}
	}
	return x, 0, api.OK
}

func checkParse(t *testing.T, s string) api.Errno {
	t.Helper()
	want, wantLine, wantError := parsed(s)
	x, line, e := sight.Parse(s)
	if !same(x, want) || line != wantLine || e != wantError {
		t.Fatalf("Parse(%.200q) = %v, %d, %d, not %v, %d, %d", s, x, line, e, want, wantLine, wantError)
	}
	if e == api.OK && sight.Format(x) != s {
		t.Fatalf("Format(%v) is not %q", x, s)
	}
	return e
}

func TestFormatAndBack(t *testing.T) {
	if s := sight.Format(example(true)); s != exampleText {
		t.Errorf("%q", s)
	}
	far := api.Net{Rates: []int{0, api.MaxRate, 0, 0, 0, 0, 0, 7}, Sights: []api.Sight{{At: api.MaxTime, A: 7, B: 1, Lo: -api.Day, Hi: api.Day}, {At: 0, A: 0, B: 7, Lo: -1, Hi: 0}}}
	if s := sight.Format(far); s != "rates 0 1000000 0 0 0 0 0 7\nsight 1000000000000 7 1 -86400000 86400000\nsight 0 0 7 -1 0\n" {
		t.Errorf("%q", s)
	}
	for _, x := range append(nets(300), far) {
		s := sight.Format(x)
		if s != textOf(x) {
			t.Errorf("%q", s)
		}
		if y, line, e := sight.Parse(s); !same(x, y) || line != 0 || e != api.OK {
			t.Error(x, y, line, e)
		}
		checkParse(t, s)
	}
	for _, x := range badNets() {
		if s := sight.Format(x); s != "" {
			t.Errorf("%v: %q", x, s)
		}
		if checkParse(t, textOf(x)) != api.ErrSyntax {
			t.Error(x)
		}
	}
}

func TestFirstWrongLine(t *testing.T) {
	thirty := textOf(full())
	for _, c := range []struct {
		s    string
		line int
	}{
		{"", 0}, {"\n", 0}, {"rates", 0}, {"rates\n", 0}, {"rates 0\n", 0}, {"rates 0 1", 0}, {"rates 0 1 \n", 0}, {"rates 0  1\n", 0}, {" rates 0 1\n", 0}, {"rates 1 0\n", 0},
		{"rates 0 -1\n", 0}, {"rates 0 1000001\n", 0}, {"rates 0 01\n", 0}, {"rates 0 +1\n", 0}, {"rates -0 1\n", 0}, {"rates 0 1\r\n", 0}, {"rates\t0 1\n", 0}, {"Rates 0 1\n", 0}, {"rate 0 1\n", 0},
		{"rates 0 0 0 0 0 0 0 0 0\n", 0}, {"sight 0 1 0 5 5\n", 0}, {"rates 0 1_0\n", 0}, {"rates 0 0x1\n", 0}, {"rates 0 99999999999999999999\n", 0}, {"rates 0 1.0\n", 0}, {"rates 0 1e3\n", 0}, {"0 1\n", 0}, {"rates 0 \u0661\n", 0},
		{"rates 0 1\n\n", 1}, {"rates 0 1\nrates 0 1\n", 1}, {"rates 0 1\nsight", 1}, {"rates 0 1\nsight 0 1 0 5 5", 1}, {"rates 0 1\nsight 0 1 0 5\n", 1}, {"rates 0 1\nsight 0 1 0 5 5 5\n", 1}, {"rates 0 1\nsight\n", 1},
		{"rates 0 1\nsight 0 2 0 5 5\n", 1}, {"rates 0 1\nsight 0 1 1 5 5\n", 1}, {"rates 0 1\nsight 0 1 0 6 5\n", 1}, {"rates 0 1\nsight -1 1 0 5 5\n", 1}, {"rates 0 1\nsight 1000000000001 1 0 5 5\n", 1},
		{"rates 0 1\nsight 0 1 0 5 86400001\n", 1}, {"rates 0 1\nsight 0 1 0 -86400001 5\n", 1}, {"rates 0 1\nsight 0 1 0 -0 5\n", 1}, {"rates 0 1\nsight 0 1 0 5 5 \n", 1}, {"rates 0 1\n5 1 0 5 5\n", 1}, {"rates 0 1\nshot 0 1 0 5 5\n", 1},
		{"rates 0 1\nsight 0 1 0 5 5\nsight 0 1 0 5 5", 2}, {"rates 0 1\nsight 0 1 0 5 5\n\nsight 0 9 0 5 5\n", 2}, {"rates 0 1\nsight 0 1 0 5 5\n ", 2}, {"rates 0 1\nsight 0 1 0 5 5\nx\nsight 0 1 0 5 5\n", 2},
		{thirty + "sight 0 1 0 0 0\n", 31}, {thirty + "x", 31}, {thirty + "\n", 31}, {strings.TrimSuffix(thirty, "\n"), 30}, {strings.Replace(thirty, "sight 28000", "sight x", 1) + "x", 29},
	} {
		if x, line, e := sight.Parse(c.s); !same(x, api.Net{}) || line != c.line || e != api.ErrSyntax {
			t.Errorf("Parse(%.200q) = %v, %d, %d, not line %d", c.s, x, line, e, c.line)
		}
		checkParse(t, c.s)
	}
}

func TestLongTexts(t *testing.T) {
	for _, s := range []string{exampleText, "rates", "\n", "0", " ", "rates 0 1\n"} {
		for length := api.MaxText - 1; length <= api.MaxText+1; length++ {
			long := strings.Repeat(s, length/len(s)+1)[:length]
			want := api.ErrSyntax
			if length > api.MaxText {
				want = api.ErrLong
			}
			if e := checkParse(t, long); e != want {
				t.Errorf("%q, %d: %d", s, length, e)
			}
		}
	}
	words := "rates" + strings.Repeat(" 0", 32000) + "\n"
	if e := checkParse(t, words); e != api.ErrSyntax {
		t.Error("a long line", e)
	}
	if e := checkParse(t, strings.Repeat(exampleText, 100000)); e != api.ErrLong {
		t.Error("far too long", e)
	}
}

// Each byte of a text becomes each other byte, is left out and is doubled.
func TestTextsThatAreNearlyThoseOfFormat(t *testing.T) {
	met := map[api.Errno]int{}
	for _, s := range []string{exampleText, "rates 0 10 20\nsight 1000000000000 2 1 -86400000 86400000\n"} {
		for i := range len(s) {
			for b := range 256 {
				met[checkParse(t, s[:i]+string([]byte{byte(b)})+s[i+1:])]++
				met[checkParse(t, s[:i]+string([]byte{byte(b)})+s[i:])]++
			}
			met[checkParse(t, s[:i])]++
			met[checkParse(t, s[i:])]++
			met[checkParse(t, s[:i]+s[i+1:])]++
		}
		checkParse(t, s+s)
	}
	if met[api.OK] < 100 || met[api.ErrSyntax] < 10000 {
		t.Error("hardly tried", met)
	}
}

// Texts of words that are right somewhere.
func TestTextsOfWords(t *testing.T) {
	words := []string{"rates", "sight", "0", "1", "2", "-1", "-0", "01", "1000000", "86400001", "", "x"}
	r := random()
	for range 20000 {
		s := "rates 0 5 9\n"
		for range r.IntN(3) {
			s += lineOfWords(r, words)
		}
		checkParse(t, s)
		checkParse(t, lineOfWords(r, words)+s)
	}
}

func lineOfWords(r *rand.Rand, words []string) string {
	l := []string{"sight", "7", "0", "1", "2", "2"}
	if r.IntN(3) > 0 {
		i := r.IntN(len(l))
		l[i] = words[r.IntN(len(words))]
	}
	return strings.Join(l[:len(l)-r.IntN(8)/7], " ") + "\n"
}
