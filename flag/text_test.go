package flag_test

import (
	"fmt"
	"math/rand/v2"
	"regexp"
	"slices"
	"strconv"
	"strings"
	"testing"

	"noongun/api"
	"noongun/flag"
)

const exampleText = "0 nil\n7 yes\n11 time\n12 ball\n21 gun\n110 wind\n120  at noon \n1211 yes\n1221 slow  by\n1234  \n4321 ~\n9999 fault\n"

func textOf(b []api.Meaning) string {
	var s strings.Builder
	for _, m := range b {
		fmt.Fprintf(&s, "%d %s\n", m.Number, m.Text)
	}
	return s.String()
}

var bookLine = regexp.MustCompile(`\A(0|[1-9][0-9]{0,3}) ([ -~]{1,60})\n\z`)

// parsed is what Parse must return, line by line: no text of Format begins with a line that is not as it should be behind those before.
func parsed(s string) (b []api.Meaning, line int, e api.Errno) {
	if len(s) > 65536 {
		return nil, 0, api.ErrLong
	}
	before := -1
	for k, text := range strings.SplitAfter(s, "\n") {
		if text == "" {
			break
		}
		parts := bookLine.FindStringSubmatch(text)
		if k >= 200 || parts == nil {
			return nil, k, api.ErrSyntax
		}
		n, _ := strconv.Atoi(parts[1])
		if n <= before {
			return nil, k, api.ErrSyntax
		}
		before = n
		b = append(b, api.Meaning{Number: n, Text: parts[2]})
	}
	return b, 0, api.OK
}

func checkParse(t *testing.T, s string) api.Errno {
	t.Helper()
	want, wantLine, wantError := parsed(s)
	b, line, e := flag.Parse(s)
	if !slices.Equal(b, want) || line != wantLine || e != wantError {
		t.Fatalf("Parse(%.200q) = %v, %d, %d, not %v, %d, %d", s, b, line, e, want, wantLine, wantError)
	}
	if e == api.OK && flag.Format(b) != s {
		t.Fatalf("Format(%v) is not %q", b, s)
	}
	return e
}

// P7.6
func TestFormatAndBack(t *testing.T) {
	if s := flag.Format(signals()); s != exampleText {
		t.Errorf("%q", s)
	}
	if b, line, e := flag.Parse(exampleText); !slices.Equal(b, signals()) || line != 0 || e != api.OK {
		t.Error(b, line, e)
	}
	if s := flag.Format(nil); s != "" {
		t.Errorf("the empty book: %q", s)
	}
	if b, line, e := flag.Parse(""); len(b) != 0 || line != 0 || e != api.OK {
		t.Error("the empty text", b, line, e)
	}
	r := random()
	for range 500 {
		b := anyBook(r, r.IntN(201), []int{200, 2000, 10000}[r.IntN(3)])
		s := flag.Format(b)
		if s != textOf(b) {
			t.Fatalf("%q", s)
		}
		if got, line, e := flag.Parse(s); !slices.Equal(got, b) || line != 0 || e != api.OK {
			t.Fatal(got, line, e)
		}
		checkParse(t, s)
	}
}

// As many meanings and bytes as there can be.
func TestTheLongestText(t *testing.T) {
	var b []api.Meaning
	for i := range 200 {
		b = append(b, api.Meaning{Number: 9000 + i, Text: strings.Repeat(string([]byte{byte(' ' + i%95)}), 60)})
	}
	s := flag.Format(b)
	if s != textOf(b) || len(s) != 200*66 {
		t.Error(len(s))
	}
	if got, line, e := flag.Parse(s); !slices.Equal(got, b) || line != 0 || e != api.OK {
		t.Error(len(got), line, e)
	}
	if checkParse(t, s+"9999 x\n") != api.ErrSyntax || checkParse(t, s+strings.Repeat("x", 65536-len(s)+1)) != api.ErrLong {
		t.Error("more than that")
	}
}

func TestNoTexts(t *testing.T) {
	for _, b := range badBooks() {
		if s := flag.Format(b); s != "" {
			t.Errorf("%d meanings: %.50q", len(b), s)
		}
		if e := checkParse(t, textOf(b)); e == api.OK {
			t.Error(b)
		}
	}
}

func TestFirstWrongLine(t *testing.T) {
	full := textOf(anyBook(random(), 200, 9000))
	sixty := strings.Repeat("x", 60)
	for _, c := range []struct {
		s    string
		line int
	}{
		{"\n", 0}, {" ", 0}, {"5", 0}, {"5\n", 0}, {"5 \n", 0}, {"5 ", 0}, {"5 a", 0}, {" 5 a\n", 0}, {" a\n", 0}, {"a\n", 0}, {"a 5\n", 0}, {"a 5 a\n", 0}, {"5\ta\n", 0}, {"5a\n", 0}, {"5a a\n", 0},
		{"05 a\n", 0}, {"00 a\n", 0}, {"-0 a\n", 0}, {"+5 a\n", 0}, {"-5 a\n", 0}, {"10000 a\n", 0}, {"09999 a\n", 0}, {"99999999999999999999 a\n", 0}, {"18446744073709551616 a\n", 0}, {"5.0 a\n", 0}, {"5e0 a\n", 0}, {"0x5 a\n", 0}, {"1_0 a\n", 0},
		{"5 a\r\n", 0}, {"5 a\tb\n", 0}, {"5 \x7f\n", 0}, {"5 é\n", 0}, {"5 \x00\n", 0}, {"5 " + sixty + "x\n", 0}, {"5  " + sixty + "\n", 0},
		{"5 a\n\n", 1}, {"5 a\n6", 1}, {"5 a\n6 b", 1}, {"5 a\n6 \n", 1}, {"5 a\n\n6 b\n", 1}, {"5 a\n ", 1},
		{"5 a\n5 a\n", 1}, {"5 a\n4 b\n", 1}, {"5 a\n6 b\n6 c\n", 2}, {"5 a\n7 b\n6 c\n8", 2}, {"10 a\n9 b\n", 1}, {"9999 a\n0 b\n", 1}, {"9999 a\n10000 b\n", 1}, {"5 a\n5 b", 1}, {"5 a\nx\ny\n", 1},
		{exampleText + "x", 12}, {exampleText + "\x00", 12}, {exampleText[:len(exampleText)-1], 11}, {exampleText + exampleText, 12},
		{full + "9999 a\n", 200}, {full + "x", 200}, {full + "\n", 200}, {full[:len(full)-1], 199}, {full + full, 200},
	} {
		if b, line, e := flag.Parse(c.s); len(b) != 0 || line != c.line || e != api.ErrSyntax {
			t.Errorf("Parse(%.200q) = %v, %d, %d, not line %d", c.s, b, line, e, c.line)
		}
		checkParse(t, c.s)
	}
}

// The text of a meaning is all behind the first blank.
func TestBlanks(t *testing.T) {
	for s, want := range map[string]string{"5  \n": " ", "5  a\n": " a", "5 a \n": "a ", "5 a b\n": "a b", "5   \n": "  ", "5 5 5\n": "5 5", "5 " + strings.Repeat(" ", 60) + "\n": strings.Repeat(" ", 60)} {
		if b, line, e := flag.Parse(s); !slices.Equal(b, []api.Meaning{{Number: 5, Text: want}}) || line != 0 || e != api.OK {
			t.Errorf("%q: %v, %d, %d", s, b, line, e)
		}
		checkParse(t, s)
	}
}

func TestLongTexts(t *testing.T) {
	for _, s := range []string{exampleText, "5 a\n", "\n", "0", " ", "a", "5 a", "0 "} {
		for length := api.MaxText - 1; length <= api.MaxText+1; length++ {
			want := api.ErrSyntax
			if length > api.MaxText {
				want = api.ErrLong
			}
			if e := checkParse(t, strings.Repeat(s, length/len(s)+1)[:length]); e != want {
				t.Errorf("%q, %d: %d", s, length, e)
			}
		}
	}
	if e := checkParse(t, strings.Repeat(exampleText, 100000)); e != api.ErrLong {
		t.Error("far too long", e)
	}
}

// Each byte of a text becomes each other byte, is left out and is doubled.
func TestTextsThatAreNearlyThoseOfFormat(t *testing.T) {
	met := map[api.Errno]int{}
	for _, s := range []string{exampleText, "0 a\n9 b\n10 c\n", "99 " + strings.Repeat("y", 60) + "\n9999  \n"} {
		for i := range len(s) {
			for b := range 256 {
				met[checkParse(t, s[:i]+string([]byte{byte(b)})+s[i+1:])]++
				met[checkParse(t, s[:i]+string([]byte{byte(b)})+s[i:])]++
			}
			met[checkParse(t, s[:i])]++
			met[checkParse(t, s[i:])]++
			met[checkParse(t, s[:i]+s[i+1:])]++
		}
	}
	if met[api.OK] < 100 || met[api.ErrSyntax] < 10000 {
		t.Error("hardly tried", met)
	}
}

// Texts of words that are right somewhere.
func TestTextsOfWords(t *testing.T) {
	r := random()
	met := map[api.Errno]int{}
	for range 20000 {
		s := ""
		for i := range r.IntN(4) {
			s += lineOfWords(r, i)
		}
		met[checkParse(t, s)]++
	}
	if met[api.OK] < 1000 || met[api.ErrSyntax] < 1000 {
		t.Error("hardly tried", met)
	}
}

func lineOfWords(r *rand.Rand, i int) string {
	words := []string{"0", "5", "05", "-5", "9999", "10000", "", " ", "a", "wind", "\t", "é"}
	l := []string{strconv.Itoa(3*i + r.IntN(5)), "wind", "is", "up"}
	if r.IntN(3) == 0 {
		l[r.IntN(len(l))] = words[r.IntN(len(words))]
	}
	return strings.Join(l[:len(l)-r.IntN(4)*r.IntN(2)], " ") + "\n"
}
