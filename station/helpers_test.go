package station_test

import (
	"fmt"
	"hash/fnv"
	"math/rand/v2"
	"strings"
	"testing"

	"noongun/api"
	"noongun/station"
)

func random() *rand.Rand {
	return rand.New(rand.NewPCG(1833, 2007))
}

// mast and rates are those of the chapter's example.
func mast() api.Mast {
	return api.Mast{Noon: 43200000, Half: 300000, Full: 120000, Late: 200, Again: 3600000, Wind: 60}
}

func rates() []int {
	return []int{0, 10000}
}

// set returns a new station with some clocks, which has done some lines.
func set(t *testing.T, rates []int, lines ...string) *station.Station {
	t.Helper()
	x, e := station.New(mast(), rates)
	if e != api.OK {
		t.Fatal(rates, e)
	}
	all(t, x, lines...)
	return x
}

// all does lines, none of which is refused.
func all(t *testing.T, x *station.Station, lines ...string) {
	t.Helper()
	for _, line := range lines {
		if reply, e := x.Do(line); reply == "" || e != api.OK {
			t.Fatalf("%q: %q, %d", line, reply, e)
		}
	}
}

// told is what a station tells of itself.
func told(x *station.Station) string {
	return fmt.Sprintf("%d %v %v %v %v %v %d\n%s", x.Day(), x.Net(), x.Log(), x.Ball(), x.Verdicts(), x.Ledger(), x.Flags(), x.Book())
}

// checkDo does a line with a reply.
func checkDo(t *testing.T, x *station.Station, line, want string) {
	t.Helper()
	if reply, e := x.Do(line); reply != want || e != api.OK {
		t.Errorf("%q: %q, %d, not %q", line, reply, e, want)
	}
}

// checkRefused does a line that is refused, and changes nothing.
func checkRefused(t *testing.T, x *station.Station, line string, want api.Errno) {
	t.Helper()
	before := told(x)
	if reply, e := x.Do(line); reply != "" || e != want {
		t.Errorf("%q: %q, %d, not %d", line, reply, e, want)
	}
	if told(x) != before {
		t.Errorf("%q is refused and changes something", line)
	}
}

// The lines of some days, by their verdicts.
var dayLines = [][]string{
	api.VGood:   {"event 42900000 2 0", "event 43080000 3 0", "event 43200000 4 0", "close"},
	api.VWrong:  {"event 42900000 2 0", "event 43080000 3 0", "event 43200201 4 0", "event 43200201 6 0", "close"},
	api.VFalse:  {"event 42900000 2 0", "event 43080000 3 0", "event 43200201 4 0", "close"},
	api.VAgain:  {"event 42900000 2 0", "event 43080000 3 0", "event 43200000 5 0", "event 43200000 6 0", "event 46500000 2 0", "event 46680000 3 0", "event 46800000 4 0", "close"},
	api.VTold:   {"event 5 6 0", "close"},
	api.VSilent: {"close"},
}

// daysOf returns the lines of days with verdicts.
func daysOf(verdicts ...int) []string {
	var lines []string
	for _, v := range verdicts {
		lines = append(lines, dayLines[v]...)
	}
	return lines
}

// bookOf returns a book with texts, by the letter of the chapter.
func bookOf(texts ...string) string {
	var book strings.Builder
	sum := strings.Repeat("0", 16)
	for n, text := range texts {
		sum = sumOf(sum, text)
		fmt.Fprintf(&book, "%d %s %s\n", n, sum, text)
	}
	return book.String()
}

func sumOf(before, text string) string {
	h := fnv.New64a()
	h.Write([]byte(before + " " + text))
	return fmt.Sprintf("%016x", h.Sum64())
}

// repeated are n times a text.
func repeated(n int, text string) []string {
	l := make([]string, n)
	for i := range l {
		l[i] = text
	}
	return l
}
