package station_test

import (
	"fmt"
	"regexp"
	"slices"
	"strconv"
	"strings"
	"testing"

	"noongun/api"
	"noongun/station"
)

var bookLine = regexp.MustCompile(`\A(0|[1-9][0-9]*) ([0-9a-f]{16}) ([!-~]|[!-~][ -~]{0,198}[!-~])\n\z`)

// linesOf are the lines of a book, by the letter of the chapter.
func linesOf(book string) (l []api.Line, torn bool, e api.Errno) {
	if len(book) > 600000 {
		return nil, false, api.ErrLong
	}
	sum := strings.Repeat("0", 16)
	for _, whole := range strings.SplitAfter(book, "\n") {
		if !strings.HasSuffix(whole, "\n") {
			return l, whole != "", api.OK
		}
		parts := bookLine.FindStringSubmatch(whole)
		if parts == nil || parts[1] != fmt.Sprint(len(l)) || parts[2] != sumOf(sum, parts[3]) {
			return l, false, api.ErrSum
		}
		if len(l) == 2000 {
			return nil, false, api.ErrLimit
		}
		sum = parts[2]
		n, _ := strconv.ParseUint(sum, 16, 64)
		l = append(l, api.Line{Number: len(l), Text: parts[3], Sum: n})
	}
	return l, torn, api.OK
}

func checkBook(t *testing.T, book string) api.Errno {
	t.Helper()
	want, wantTorn, wantError := linesOf(book)
	l, torn, e := station.Lines(book)
	if !slices.Equal(l, want) || torn != wantTorn || e != wantError {
		t.Fatalf("%.500q: %d lines, %t, %d, not %d, %t, %d", book, len(l), torn, e, len(want), wantTorn, wantError)
	}
	return e
}

func TestLines(t *testing.T) {
	book := "0 94f2ef5f82844f25 close\n1 a365b5e1298a8f40 say -5\n"
	want := []api.Line{{Number: 0, Text: "close", Sum: 0x94f2ef5f82844f25}, {Number: 1, Text: "say -5", Sum: 0xa365b5e1298a8f40}}
	for behind, torn := range map[string]bool{"": false, "2": true, " ": true, "2 0000000000000000 no": true, "\x00": true, strings.Repeat("x", 5000): true} {
		if l, got, e := station.Lines(book + behind); !slices.Equal(l, want) || got != torn || e != api.OK {
			t.Errorf("%.50q: %v, %t, %d", behind, l, got, e)
		}
		if l, got, e := station.Lines(behind); len(l) != 0 || got != torn || e != api.OK {
			t.Errorf("%.50q alone: %v, %t, %d", behind, l, got, e)
		}
	}
	// With the lines before, and nothing is torn.
	for _, behind := range []string{"\n", "\n2", "x\n", "2 0000000000000000 close\n2", strings.Repeat("x", 5000) + "\n", "1 a365b5e1298a8f40 say -5\n"} {
		if l, torn, e := station.Lines(book + behind); !slices.Equal(l, want) || torn || e != api.ErrSum {
			t.Errorf("%.50q: %v, %t, %d", behind, l, torn, e)
		}
	}
}

// Books that are right but for something.
func TestWrongLines(t *testing.T) {
	book := bookOf("close", "torn 5", "a  text, not a line", "say -5")
	lines := strings.SplitAfter(book, "\n")
	for _, wrong := range []string{
		strings.Join(lines[1:], ""), lines[1] + lines[0], lines[0] + lines[0], lines[0] + lines[2] + lines[1], lines[0] + "\n" + lines[1], "\n" + book, " " + book, "0" + book, "+" + book, "-" + book,
		strings.ReplaceAll(book, "\n", "\r\n"), strings.ReplaceAll(book, "\n", " \n"), strings.ToUpper(book), strings.Replace(book, " ", "  ", 1), strings.Replace(book, " ", "\t", 1), strings.Replace(book, " ", "", 2),
		"0\n", "0 \n", "0 " + sumOf("", "") + "\n", "close\n", "0 close\n", sumOf(strings.Repeat("0", 16), "close") + " close\n", "0 0000000000000000 close\n", "0  close\n", "00 " + lines[0][2:], "1 " + lines[0][2:], "0x" + lines[0][1:],
		"0 " + sumOf("", "close") + " close\n", "0 " + sumOf("0", "close") + " close\n",
	} {
		if checkBook(t, wrong) != api.ErrSum {
			t.Errorf("%q", wrong)
		}
	}
	r := random()
	met := map[api.Errno]int{}
	for at := range len(book) {
		for _, c := range "0159aAfg -x\n\t\x00" {
			for _, other := range []string{book[:at] + string(c) + book[at+1:], book[:at] + string(c) + book[at:], book[:at] + book[at+1:], book[:at] + string(rune(r.IntN(128))) + book[at+1:]} {
				met[checkBook(t, other)]++
			}
		}
	}
	if met[api.OK] < 100 || met[api.ErrSum] < 1000 { // a line feed that is missing at the end leaves the last line torn
		t.Error("hardly tried", met)
	}
}

// A sum that begins with zeros has all of its 16 digits.
func TestShortSums(t *testing.T) {
	short := 0
	for n := range 1000 {
		lines := []string{fmt.Sprint("error 0 ", n), "close", "close"}
		book := bookOf(lines...)
		if set(t, rates(), lines...).Book() != book || checkBook(t, book) != api.OK {
			t.Fatal(book)
		}
		if strings.Contains(book, "\n1 0") {
			short++
			if checkBook(t, strings.Replace(book, "\n1 0", "\n1 ", 1)) != api.ErrSum || checkBook(t, strings.Replace(book, "\n1 0", "\n1  ", 1)) != api.ErrSum {
				t.Fatal(book)
			}
		}
	}
	if short < 20 {
		t.Error("hardly tried", short)
	}
}

func TestTexts(t *testing.T) {
	for _, c := range []struct {
		text string
		e    api.Errno
	}{
		{"x", api.OK}, {"~", api.OK}, {"!", api.OK}, {"no line", api.OK}, {"a   b", api.OK}, {strings.Repeat("x", 200), api.OK}, {"x" + strings.Repeat(" ", 198) + "y", api.OK}, {"0 0000000000000000 close", api.OK},
		{"", api.ErrSum}, {" ", api.ErrSum}, {" x", api.ErrSum}, {"x ", api.ErrSum}, {strings.Repeat("x", 201), api.ErrSum}, {"x\ty", api.ErrSum}, {"x\x1fy", api.ErrSum}, {"x\x7fy", api.ErrSum}, {"x\x80y", api.ErrSum}, {"é", api.ErrSum}, {"x\x00", api.ErrSum}, {"x\r", api.ErrSum}, {strings.Repeat("x", 500000), api.ErrSum},
	} {
		if e := checkBook(t, bookOf("close", c.text, "close")); e != c.e {
			t.Errorf("%.50q: %d", c.text, e)
		}
	}
	for c := range 256 {
		checkBook(t, bookOf("close", string([]byte{byte(c)}), "close"))
		checkBook(t, bookOf("close", "x"+string([]byte{byte(c)})+"y", "close"))
	}
}

func TestLongBooks(t *testing.T) {
	full := bookOf(repeated(2000, strings.Repeat("x", 200))...)
	for _, c := range []struct {
		book  string
		lines int
		torn  bool
		e     api.Errno
	}{
		{full, 2000, false, api.OK}, {full + "2000 ", 2000, true, api.OK}, {full + strings.Repeat("x", 600000-len(full)), 2000, true, api.OK}, {strings.Repeat("x", 600000), 0, true, api.OK},
		{full + "\n", 2000, false, api.ErrSum}, {full + "2000 0000000000000000 x\n", 2000, false, api.ErrSum}, {bookOf(repeated(2001, "x")...), 0, false, api.ErrLimit}, {bookOf(repeated(2001, "x")...) + "x\n", 0, false, api.ErrLimit}, {bookOf(repeated(2002, "x")...), 0, false, api.ErrLimit},
		{strings.Repeat("x", 600001), 0, false, api.ErrLong}, {strings.Repeat("\n", 600001), 0, false, api.ErrLong}, {full + strings.Repeat("x", 600001-len(full)), 0, false, api.ErrLong}, {strings.Repeat("\n", 600000), 0, false, api.ErrSum}, {strings.Repeat("x", 599999) + "\n", 0, false, api.ErrSum},
		{bookOf(repeated(2001, "x")...) + strings.Repeat("x", 600000), 0, false, api.ErrLong},
	} {
		l, torn, e := station.Lines(c.book)
		if len(l) != c.lines || torn != c.torn || e != c.e || checkBook(t, c.book) != c.e {
			t.Error(len(c.book), len(l), torn, e, c.lines, c.torn, c.e)
		}
		if c.e == api.OK {
			continue
		}
		if x, n, e := station.Replay(mast(), rates(), c.book); x != nil || n != 0 || e != c.e {
			t.Error("Replay", n, e, c.e)
		}
		if l, e := station.Replies(mast(), rates(), c.book); len(l) != 0 || e != c.e {
			t.Error("Replies", len(l), e, c.e)
		}
		if l, e := station.Faults(mast(), rates(), c.book); len(l) != 0 || e != c.e {
			t.Error("Faults", len(l), e, c.e)
		}
	}
}

// P10.5: every beginning of a book is the book of the station after so many lines.
func TestBeginnings(t *testing.T) {
	r := random()
	y := modelOf(mast(), sessionRates)
	for len(y.texts) < 60 {
		y.do(anyLine(r, y))
	}
	for _, line := range daysOf(api.VGood, api.VFalse, api.VSilent) {
		y.do(line)
	}
	x := set(t, sessionRates)
	was, faults := []string{told(x)}, []int{0}
	for _, text := range y.texts {
		all(t, x, text)
		was = append(was, told(x))
		days, _ := station.Faults(mast(), sessionRates, x.Book())
		faults = append(faults, len(days))
	}
	book := x.Book()
	for n := range len(book) + 1 {
		lines := strings.Count(book[:n], "\n")
		if l, torn, e := station.Lines(book[:n]); len(l) != lines || torn != (n > 0 && book[n-1] != '\n') || e != api.OK {
			t.Fatal(n, len(l), torn, e)
		}
		z, done, e := station.Replay(mast(), sessionRates, book[:n])
		if e != api.OK || done != lines || told(z) != was[lines] {
			t.Fatal(n, done, e)
		}
		if l, e := station.Replies(mast(), sessionRates, book[:n]); !slices.Equal(l, y.replies[:lines]) || e != api.OK {
			t.Fatal(n, l, e)
		}
		if l, e := station.Faults(mast(), sessionRates, book[:n]); len(l) != faults[lines] || e != api.OK {
			t.Fatal(n, l, e)
		}
	}
}

// A book whose sums fit may have lines that are refused.
func TestReplayRefused(t *testing.T) {
	for _, c := range []struct {
		texts []string
		done  int
	}{
		{[]string{"no line"}, 0}, {[]string{"close", "torn  5"}, 1}, {[]string{"torn 5", "torn 5", "mended 5"}, 1}, {[]string{"close", "close", "say 86400001"}, 2}, {[]string{"sight 0 1 0 5 6", "sight 0 1 0 7 8", "close"}, 1}, {[]string{"mended 0"}, 0},
		{append(repeated(1999, "close"), "off 5"), 1999}, {append(repeated(100, "event 0 1 0"), "event 0 1 0"), 100}, {append(repeated(1000, "say 5"), "say 5", "close"), 1000},
	} {
		book := bookOf(c.texts...)
		for _, behind := range []string{"", "x"} {
			if x, n, e := station.Replay(mast(), rates(), book+behind); x != nil || n != c.done || e != api.ErrSum {
				t.Error(c.texts[0], n, c.done, e)
			}
			if l, e := station.Replies(mast(), rates(), book+behind); len(l) != 0 || e != api.ErrSum {
				t.Error(c.texts[0], l, e)
			}
			if l, e := station.Faults(mast(), rates(), book+behind); len(l) != 0 || e != api.ErrSum {
				t.Error(c.texts[0], l, e)
			}
		}
		// A line that is none comes first, wherever it is.
		if x, n, e := station.Replay(mast(), rates(), book+"x\n"); x != nil || n != 0 || e != api.ErrSum {
			t.Error(c.texts[0], n, e)
		}
	}
	if x, n, e := station.Replay(mast(), rates(), ""); told(x) != told(set(t, rates())) || n != 0 || e != api.OK {
		t.Error(n, e)
	}
}

// A station that was replayed goes on with its book.
func TestReplayGoesOn(t *testing.T) {
	x := set(t, rates(), daysOf(api.VFalse, api.VAgain)...)
	all(t, x, "sight 5 1 0 -7 9", "event 6 1 12", "say -3", "torn 2")
	y, _, e := station.Replay(mast(), rates(), x.Book()+"17 torn")
	if e != api.OK {
		t.Fatal(e)
	}
	for _, z := range []*station.Station{x, y} {
		all(t, z, "event 42900000 2 0", "close", "mended 2", "drop 0")
	}
	if told(x) != told(y) || checkBook(t, y.Book()) != api.OK {
		t.Error(told(x), told(y))
	}
}

func TestReplies(t *testing.T) {
	book := bookOf("sight 0 1 0 100 100", "error 1 1000000", "best 0", "event 42900000 2 0", "close", "say 5", "found 1 -5", "off 1", "torn 10", "hoist 12", "mended 10", "drop 0")
	want := []string{"sights 1", "error 90 110", "clock 1", "place 1", "silent", "entries 1", "entries 2", "off -10", "flags 12", "1,2", "flags 13", "sights 0"}
	for range 2 {
		l, e := station.Replies(mast(), rates(), book+"12")
		if !slices.Equal(l, want) || e != api.OK {
			t.Error(l, e)
		}
		scribble(l, "")
	}
	if l, e := station.Replies(mast(), rates(), ""); len(l) != 0 || e != api.OK {
		t.Error(l, e)
	}
}

func TestParting(t *testing.T) {
	texts := []string{"close", "torn 5", "no line", "say -5", "close"}
	for n := range len(texts) + 1 {
		for m := range len(texts) + 1 {
			for at := range len(texts) + 1 {
				other := slices.Clone(texts)
				if at < len(other) {
					other[at] += "x"
				}
				a, b := bookOf(texts[:n]...), bookOf(other[:m]...)
				for _, pair := range [][2]string{{a, b}, {b, a}, {a + "x", b}, {a, b + "5 0"}} {
					if same, e := station.Parting(pair[0], pair[1]); same != min(n, m, at) || e != api.OK {
						t.Fatal(n, m, at, same, e)
					}
				}
			}
		}
	}
	// The last text is the same, and its sum is not.
	if same, e := station.Parting(bookOf("a", "b", "c"), bookOf("a", "x", "c")); same != 1 || e != api.OK {
		t.Error(same, e)
	}
	right, wrong, long, many := bookOf("a", "b"), bookOf("a")+"x\n", strings.Repeat("x", 600001), bookOf(repeated(2001, "a")...)
	for _, c := range []struct {
		a, b string
		e    api.Errno
	}{
		{right, wrong, api.ErrSum}, {wrong, right, api.ErrSum}, {wrong, wrong, api.ErrSum}, {right, long, api.ErrLong}, {long, right, api.ErrLong}, {right, many, api.ErrLimit}, {many, right, api.ErrLimit},
		{wrong, long, api.ErrSum}, {long, wrong, api.ErrLong}, {many, wrong, api.ErrLimit}, {wrong, many, api.ErrSum}, {long, many, api.ErrLong}, {many, long, api.ErrLimit},
	} {
		if same, e := station.Parting(c.a, c.b); same != 0 || e != c.e {
			t.Error(len(c.a), len(c.b), same, e, c.e)
		}
	}
}

func TestFaults(t *testing.T) {
	verdicts := []int{api.VSilent, api.VGood, api.VFalse, api.VWrong, api.VAgain, api.VFalse, api.VTold, api.VSilent}
	lines := append(daysOf(verdicts...), "event 42900000 2 0") // the day that is not closed has no verdict
	for range 2 {
		days, e := station.Faults(mast(), rates(), bookOf(lines...)+"x")
		if !slices.Equal(days, []int{0, 2, 5, 7}) || e != api.OK {
			t.Error(days, e)
		}
		scribble(days, -1)
	}
	if days, e := station.Faults(mast(), rates(), bookOf(daysOf(api.VGood, api.VWrong)...)); len(days) != 0 || e != api.OK {
		t.Error(days, e)
	}
	if days, e := station.Faults(mast(), rates(), ""); len(days) != 0 || e != api.OK {
		t.Error(days, e)
	}
}
