package rate_test

import (
	"fmt"
	"math/rand/v2"
	"regexp"
	"slices"
	"strconv"
	"strings"
	"testing"

	"noongun/api"
	"noongun/rate"
)

const exampleText = "arnold 0 -7 86400000\nk_2 -86400000 5\n"

func exampleBoxes() []api.Box {
	return []api.Box{box("arnold", 0, -7, 86400000), box("k_2", -86400000, 5)}
}

func textOf(l []api.Box) string {
	var s strings.Builder
	for _, b := range l {
		s.WriteString(b.Name)
		for _, n := range b.Errors {
			fmt.Fprintf(&s, " %d", n)
		}
		s.WriteString("\n")
	}
	return s.String()
}

var boxLine = regexp.MustCompile(`\A[a-z][a-z0-9_]{0,15}( (0|-?[1-9][0-9]{0,7}))+\n\z`)

// parsed is what Parse must return, line by line: no text of Format begins with a line that is not as it should be behind those before.
func parsed(s string) (l []api.Box, line int, e api.Errno) {
	if len(s) > 65536 {
		return nil, 0, api.ErrLong
	}
	for k, text := range strings.SplitAfter(s, "\n") {
		if text == "" {
			break
		}
		if k >= 16 || !boxLine.MatchString(text) {
			return nil, k, api.ErrSyntax
		}
		words := strings.Fields(text)
		b := api.Box{Name: words[0]}
		for _, word := range words[1:] {
			n, _ := strconv.Atoi(word)
			b.Errors = append(b.Errors, n)
		}
		if len(b.Errors) < 2 || len(b.Errors) > 400 || slices.Min(b.Errors) < -86400000 || slices.Max(b.Errors) > 86400000 || slices.ContainsFunc(l, func(x api.Box) bool { return x.Name == b.Name }) {
			return nil, k, api.ErrSyntax
		}
		l = append(l, b)
	}
	return l, 0, api.OK
}

func checkParse(t *testing.T, s string) api.Errno {
	t.Helper()
	want, wantLine, wantError := parsed(s)
	l, line, e := rate.Parse(s)
	if !slices.EqualFunc(l, want, same) || line != wantLine || e != wantError {
		t.Fatalf("Parse(%.200q) = %v, %d, %d, not %v, %d, %d", s, l, line, e, want, wantLine, wantError)
	}
	if e == api.OK && rate.Format(l) != s {
		t.Fatalf("Format(%v) is not %q", l, s)
	}
	return e
}

// P6.6
func TestFormatAndBack(t *testing.T) {
	if s := rate.Format(exampleBoxes()); s != exampleText {
		t.Errorf("%q", s)
	}
	if l, line, e := rate.Parse(""); len(l) != 0 || line != 0 || e != api.OK {
		t.Error("the empty text", l, line, e)
	}
	r := random()
	for range 300 {
		l := anyBoxes(r, 1+r.IntN(16), 2, []int{3, 20, 400}[r.IntN(3)])
		s := rate.Format(l)
		if s != textOf(l) {
			t.Fatalf("%q", s)
		}
		if got, line, e := rate.Parse(s); !slices.EqualFunc(got, l, same) || line != 0 || e != api.OK {
			t.Fatal(got, line, e)
		}
		checkParse(t, s)
	}
}

// As many boxes, days and bytes as there can be.
func TestTheLongestText(t *testing.T) {
	var l []api.Box
	for i := range 16 {
		l = append(l, box("abcdefghijklmno"+string([]byte{'a' + byte(i)}), slices.Repeat([]int{-api.Day}, 400)...))
	}
	s := rate.Format(l)
	if s != textOf(l) || len(s) != 16*(16+400*10+1) {
		t.Error(len(s))
	}
	if got, line, e := rate.Parse(s); !slices.EqualFunc(got, l, same) || line != 0 || e != api.OK {
		t.Error(len(got), line, e)
	}
	if checkParse(t, s+"x 1 2\n") != api.ErrSyntax || checkParse(t, s+strings.Repeat("x", 65536-len(s)+1)) != api.ErrLong {
		t.Error("more than that")
	}
}

func TestNoTexts(t *testing.T) {
	for _, l := range badLists() {
		if s := rate.Format(l); s != "" {
			t.Errorf("%d boxes: %.50q", len(l), s)
		}
		if e := checkParse(t, textOf(l)); len(l) > 0 && e != api.ErrSyntax && e != api.ErrLong {
			t.Error(len(l), e)
		}
	}
}

func TestFirstWrongLine(t *testing.T) {
	sixteen := textOf(anyBoxes(random(), 16, 2, 9))
	long := strings.Repeat(" 0", 399)
	for _, c := range []struct {
		s    string
		line int
	}{
		{"\n", 0}, {" ", 0}, {"a", 0}, {"a\n", 0}, {"a \n", 0}, {"a 0\n", 0}, {"a 0 \n", 0}, {"a 0 0", 0}, {"a 0 0 \n", 0}, {"a 0  0\n", 0}, {" a 0 0\n", 0}, {"a  0 0\n", 0}, {" 0 0\n", 0}, {"0 0\n", 0}, {"0 0 0\n", 0},
		{"A 0 0\n", 0}, {"1 0 0\n", 0}, {"a- 0 0\n", 0}, {"abcdefghijklmnopq 0 0\n", 0}, {"a 0 b\n", 0}, {"a b 0 0\n", 0},
		{"a 86400001 0\n", 0}, {"a 0 86400001\n", 0}, {"a -86400001 0\n", 0}, {"a 0 -86400001\n", 0}, {"a 0 99999999999999999999\n", 0}, {"a 0 -99999999999999999999\n", 0}, {"a 18446744073709551616 0\n", 0},
		{"a 00 0\n", 0}, {"a 0 -0\n", 0}, {"a 0 +0\n", 0}, {"a 0 05\n", 0}, {"a 0 -05\n", 0}, {"a +5 0\n", 0}, {"a 0 1_000\n", 0}, {"a 0 1e3\n", 0}, {"a 0 0x5\n", 0}, {"a 0 5.0\n", 0}, {"a 0 --5\n", 0}, {"a 0 -\n", 0},
		{"a 0 0\r\n", 0}, {"a\t0 0\n", 0}, {"a 0 0\n\n", 1}, {"a 0 0\na", 1}, {"a 0 0\nb 0 0", 1}, {"a 0 0\nb 0\n", 1}, {"a 0 0\n\nb 0 0\n", 1},
		{"a 0" + long + " 0\n", 0}, {"a 0" + long + " 0 0\n", 0}, {"a 0" + long + "\nb 0" + long + " 0\n", 1}, {"a 0" + long, 0},
		{"a 0 0\na 0 0\n", 1}, {"a 0 0\nb 0 0\na 1 2 3\n", 2}, {"a 0 0\nb 0 0\nb 0 0\na 0\n", 2}, {"a 0 0\nb 0 0\na 1 2 3", 2},
		{exampleText + "x 0 0", 2}, {exampleText + "\x00", 2}, {exampleText + "x 0 86400001\nb", 2}, {exampleText[:len(exampleText)-1], 1}, {exampleText + exampleText, 2},
		{sixteen + "a 0 0\n", 16}, {sixteen + "x", 16}, {sixteen + "\n", 16}, {sixteen + "\n\n", 16}, {sixteen[:len(sixteen)-1], 15}, {sixteen + exampleText + "\n", 16}, {sixteen + sixteen, 16},
	} {
		if l, line, e := rate.Parse(c.s); len(l) != 0 || line != c.line || e != api.ErrSyntax {
			t.Errorf("Parse(%.200q) = %v, %d, %d, not line %d", c.s, l, line, e, c.line)
		}
		checkParse(t, c.s)
	}
	// just as many days as there may be
	if checkParse(t, "a 0"+long+"\nb 0"+long+"\n") != api.OK {
		t.Error("400 days")
	}
}

func TestLongTexts(t *testing.T) {
	for _, s := range []string{exampleText, "a 0 0\n", "\n", "0", " ", "a", "a 0", "0 "} {
		for length := api.MaxText - 1; length <= api.MaxText+1; length++ {
			want := api.ErrSyntax
			if length > api.MaxText {
				want = api.ErrLong
			}
			if e := checkParse(t, strings.Repeat(s, length/len(s)+1)[:length]); e != want {
				t.Errorf("%q, %d: %d", s, length, e)
			}
		}
	}
	if e := checkParse(t, "a"+strings.Repeat(" 0", 32000)+"\n"); e != api.ErrSyntax {
		t.Error("a long line", e)
	}
	if e := checkParse(t, strings.Repeat(exampleText, 100000)); e != api.ErrLong {
		t.Error("far too long", e)
	}
}

// Each byte of a text becomes each other byte, is left out and is doubled.
func TestTextsThatAreNearlyThoseOfFormat(t *testing.T) {
	met := map[api.Errno]int{}
	for _, s := range []string{exampleText, "abcdefghijklmnop 86400000 -1 0\nabcdefghijklmno 9 8\n"} {
		for i := range len(s) {
			for b := range 256 {
				met[checkParse(t, s[:i]+string([]byte{byte(b)})+s[i+1:])]++
				met[checkParse(t, s[:i]+string([]byte{byte(b)})+s[i:])]++
			}
			met[checkParse(t, s[:i])]++
			met[checkParse(t, s[i:])]++
			met[checkParse(t, s[:i]+s[i+1:])]++
		}
	}
	if met[api.OK] < 100 || met[api.ErrSyntax] < 10000 {
		t.Error("hardly tried", met)
	}
}

// Texts of words that are right somewhere.
func TestTextsOfWords(t *testing.T) {
	words := []string{"a", "arnold", "0", "-1", "-0", "01000", "86400000", "86400001", "-86400000", "-86400001", "", "x_9", "A", "9"}
	r := random()
	met := map[api.Errno]int{}
	for range 20000 {
		s := ""
		for range r.IntN(4) {
			s += lineOfWords(r, words)
		}
		met[checkParse(t, s)]++
	}
	if met[api.OK] < 1000 || met[api.ErrSyntax] < 1000 {
		t.Error("hardly tried", met)
	}
}

func lineOfWords(r *rand.Rand, words []string) string {
	l := []string{"earnshaw_" + strconv.Itoa(r.IntN(20)), "7", "-8", "1009"}
	if r.IntN(3) == 0 {
		l[r.IntN(len(l))] = words[r.IntN(len(words))]
	}
	return strings.Join(l[:len(l)-r.IntN(3)*r.IntN(2)], " ") + "\n"
}
