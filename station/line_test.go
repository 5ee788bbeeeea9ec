package station_test

import (
	"fmt"
	"slices"
	"strings"
	"testing"

	"noongun/api"
	"noongun/flag"
	"noongun/station"
)

// checkLines does lines one after the other: those with a reply, and those that are refused by an error.
func checkLines(t *testing.T, x *station.Station, lines []step) {
	t.Helper()
	for _, c := range lines {
		if c.e == api.OK {
			checkDo(t, x, c.line, c.reply)
		} else {
			checkRefused(t, x, c.line, c.e)
		}
	}
}

type step struct {
	line, reply string
	e           api.Errno
}

func TestSights(t *testing.T) {
	x := set(t, []int{0, 10000, 0})
	checkLines(t, x, []step{
		{"sight 0 1 0 100 100", "sights 1", api.OK}, {"sight 86399999 2 1 -86400000 86400000", "sights 2", api.OK},
		{"sight 86400000 1 0 0 0", "", api.ErrRange}, {"sight 86400000 3 3 5 4", "", api.ErrRange}, {"sight 999999999999 1 0 0 0", "", api.ErrRange},
		{"sight 86399999 1 1 0 0", "", api.ErrInvalid}, {"sight 0 3 0 0 0", "", api.ErrInvalid}, {"sight 0 0 3 0 0", "", api.ErrInvalid}, {"sight 0 1 0 1 0", "", api.ErrInvalid},
		{"sight 0 1 0 -86400001 0", "", api.ErrInvalid}, {"sight 0 1 0 0 86400001", "", api.ErrInvalid}, {"sight 0 1 0 -999999999999 999999999999", "", api.ErrInvalid},
		{"sight 0 1 0 99 99", "", api.ErrState}, {"sight 1000000 1 0 111 111", "", api.ErrState}, {"sight 1000000 0 1 -89 -89", "", api.ErrState}, {"sight 1000000 1 0 110 110", "sights 3", api.OK},
		{"close", "silent", api.OK}, {"sight 0 1 0 1085 2000", "", api.ErrState}, {"sight 0 1 0 964 2000", "sights 4", api.OK}, {"sight 5 0 2 86400000 86400000", "", api.ErrState},
	})
}

// Refusals by ErrInvalid, ErrLimit and ErrState, in this order, behind ErrRange.
func TestSightsAtTheLimit(t *testing.T) {
	x := set(t, rates(), repeated(30, "sight 7 1 0 0 5")...)
	checkLines(t, x, []step{
		{"sight 7 1 0 0 5", "", api.ErrLimit}, {"sight 7 1 0 6 6", "", api.ErrLimit}, {"sight 7 1 1 0 5", "", api.ErrInvalid}, {"sight 86400000 1 1 0 5", "", api.ErrRange},
		{"drop 30", "", api.ErrName}, {"drop 29", "sights 29", api.OK}, {"sight 7 1 0 6 6", "", api.ErrState}, {"sight 7 1 0 5 6", "sights 30", api.OK},
	})
	all(t, x, repeated(30, "drop 0")...)
	checkRefused(t, x, "drop 0", api.ErrName)
}

func TestEvents(t *testing.T) {
	x := set(t, rates())
	checkLines(t, x, []step{
		{"event 86400000 1 0", "", api.ErrRange}, {"event 5 0 0", "", api.ErrRange}, {"event 5 7 0", "", api.ErrRange}, {"event 5 1 1001", "", api.ErrRange}, {"event 5 6 1", "", api.ErrRange}, {"event 5 999999999999 999999999999", "", api.ErrRange},
		{"event 42899999 2 0", "", api.ErrState}, {"event 5 3 0", "", api.ErrState}, {"event 5 4 0", "", api.ErrState}, {"event 5 5 0", "", api.ErrState},
		{"event 5 1 60", "place 0", api.OK}, {"event 4 1 0", "", api.ErrRange}, {"event 42900000 2 0", "place 1", api.OK}, {"event 43080000 3 0", "place 2", api.OK}, {"event 43200000 5 0", "place 3", api.OK},
		{"event 43200000 4 0", "", api.ErrState}, {"event 43200000 6 0", "place 0", api.OK}, {"event 43200001 6 0", "", api.ErrState}, {"event 46500000 2 0", "place 1", api.OK}, {"event 46800000 3 0", "place 2", api.OK},
		{"event 46800201 4 0", "place 0", api.OK}, {"close", "false", api.OK},
		// The mast begins anew: earlier times, the flag, and the wind, which is too strong for the ball now.
		{"event 0 6 0", "place 0", api.OK}, {"event 0 6 0", "", api.ErrState}, {"event 1 1 61", "place 0", api.OK}, {"event 42900000 2 0", "", api.ErrState}, {"close", "told", api.OK}, {"event 42900000 2 0", "place 1", api.OK}, {"close", "silent", api.OK},
		{"event 42900000 3 0", "", api.ErrState},
	})
	if got := x.Verdicts(); !slices.Equal(got, []int{api.VFalse, api.VTold, api.VSilent}) {
		t.Error(got)
	}
}

// ErrRange and ErrState come before ErrLimit.
func TestEventsAtTheLimit(t *testing.T) {
	x := set(t, rates(), repeated(100, "event 43000000 1 5")...)
	checkLines(t, x, []step{
		{"event 43000000 1 5", "", api.ErrLimit}, {"event 43000001 2 0", "", api.ErrLimit}, {"event 42999999 1 5", "", api.ErrRange}, {"event 43000000 7 5", "", api.ErrRange}, {"event 43000000 3 0", "", api.ErrState},
		{"close", "silent", api.OK}, {"event 42999999 1 5", "place 0", api.OK},
	})
	if got := len(x.Log()); got != 1 {
		t.Error(got)
	}
}

func TestEntries(t *testing.T) {
	x := set(t, rates())
	checkLines(t, x, []step{
		{"off 0", "", api.ErrNone}, {"say -86400000", "entries 1", api.OK}, {"off 0", "", api.ErrNone}, {"found 0 86400000", "entries 2", api.OK}, {"off 0", "off 172800000", api.OK},
		{"say 86400001", "", api.ErrInvalid}, {"say -86400001", "", api.ErrInvalid}, {"say 999999999999", "", api.ErrInvalid}, {"found 0 86400001", "", api.ErrInvalid}, {"found 0 -999999999999", "", api.ErrInvalid},
		{"found 1 0", "", api.ErrRange}, {"found 1 86400001", "", api.ErrRange}, {"found 999999999999 0", "", api.ErrRange}, {"close", "silent", api.OK},
		{"say 12", "entries 3", api.OK}, {"found 1 5", "entries 4", api.OK}, {"off 1", "off -7", api.OK}, {"found 0 -86400000", "entries 5", api.OK}, {"off 0", "off 0", api.OK}, {"found 2 5", "", api.ErrRange},
		{"off 2", "", api.ErrNone}, {"off 182985", "", api.ErrNone}, {"off 182986", "", api.ErrRange}, {"off 999999999999", "", api.ErrRange},
	})
}

// ErrRange and ErrInvalid come before ErrLimit.
func TestEntriesAtTheLimit(t *testing.T) {
	x := set(t, rates(), repeated(999, "say 5")...)
	checkLines(t, x, []step{
		{"found 0 7", "entries 1000", api.OK}, {"say 5", "", api.ErrLimit}, {"found 0 7", "", api.ErrLimit}, {"say 86400001", "", api.ErrInvalid}, {"found 0 86400001", "", api.ErrInvalid}, {"found 1 7", "", api.ErrRange},
		{"off 0", "off 2", api.OK},
	})
}

func TestErrorsOfClocks(t *testing.T) {
	x := set(t, []int{0, 10000, 0, 500})
	checkLines(t, x, []step{
		{"error 0 0", "error 0 0", api.OK}, {"error 0 86399999", "error 0 0", api.OK}, {"error 0 86400000", "", api.ErrRange}, {"error 9 86400000", "", api.ErrRange}, {"error 9 999999999999", "", api.ErrRange}, {"error 9 0", "", api.ErrName}, {"error 4 0", "", api.ErrName},
		{"error 1 0", "", api.ErrNone}, {"best 0", "", api.ErrNone}, {"best 86400000", "", api.ErrRange}, {"best 86399999", "", api.ErrNone},
		{"sight 0 1 0 -100 -100", "sights 1", api.OK}, {"sight 0 3 0 -5 4", "sights 2", api.OK}, {"error 1 1000000", "error -110 -90", api.OK}, {"error 2 0", "", api.ErrNone},
		{"best 0", "clock 1", api.OK}, {"best 1000000", "clock 3", api.OK}, {"close", "silent", api.OK},
		{"error 1 0", "error -964 764", api.OK}, {"error 3 0", "error -49 48", api.OK}, {"error 1 13600000", "error -1100 900", api.OK},
		{"sight 0 2 3 7 7", "sights 3", api.OK}, {"error 2 0", "error -42 55", api.OK}, {"error 2 86399999", "error -42 55", api.OK}, {"best 86399999", "clock 2", api.OK},
	})
}

func TestFlags(t *testing.T) {
	x := set(t, rates())
	for f := range 13 {
		checkLines(t, x, []step{{fmt.Sprint("mended ", f), "", api.ErrState}, {fmt.Sprint("torn ", f), fmt.Sprint("flags ", 12-f), api.OK}, {fmt.Sprint("torn ", f), "", api.ErrFlag}})
	}
	if x.Flags() != 0 {
		t.Error(x.Flags())
	}
	for _, line := range []string{"torn 13", "mended 13", "torn 64", "mended 64", "torn 999999999999", "mended 999999999999"} {
		checkRefused(t, x, line, api.ErrRange)
	}
	for f := range 13 {
		checkLines(t, x, []step{{fmt.Sprint("mended ", f), fmt.Sprint("flags ", 1+f), api.OK}, {fmt.Sprint("mended ", f), "", api.ErrState}})
	}
	if x.Flags() != 8191 {
		t.Error(x.Flags())
	}
}

// P10.6
func TestHoists(t *testing.T) {
	x := set(t, rates())
	checkLines(t, x, []step{
		{"hoist 1111", "1,10,11,12", api.OK}, {"hoist 0", "0", api.OK}, {"hoist 0000", "0,10,11,12", api.OK}, {"hoist 007", "0,10,7", api.OK}, {"hoist 1211", "1,2,10,12", api.OK}, {"hoist 9876", "9,8,7,6", api.OK},
		{"torn 10", "flags 12", api.OK}, {"hoist 11", "", api.ErrFlag}, {"hoist 1", "1", api.OK}, {"mended 10", "flags 13", api.OK}, {"hoist 11", "1,10", api.OK}, {"torn 1", "flags 12", api.OK}, {"hoist 1", "", api.ErrFlag}, {"hoist 2", "2", api.OK},
	})
}

// P10.6: whatever is torn, each number's hoist has none of it, or there is no hoist.
func TestNoTornFlagIsHoisted(t *testing.T) {
	r := random()
	met := map[api.Errno]int{}
	for range 30 {
		x := set(t, rates())
		torn := 0
		for f := range 13 {
			if r.IntN(4) == 0 {
				all(t, x, fmt.Sprint("torn ", f))
				torn |= 1 << f
			}
		}
		for range 60 {
			number := fmt.Sprintf("%0*d", 1+r.IntN(4), r.IntN(10))
			if r.IntN(2) == 0 {
				number = fmt.Sprint(r.IntN(10000))
			}
			reply, e := x.Do("hoist " + number)
			met[e]++
			if e == api.ErrFlag {
				continue
			}
			var h []int
			for _, word := range strings.Split(reply, ",") {
				h = append(h, slices.Index(strings.Split("0 1 2 3 4 5 6 7 8 9 10 11 12", " "), word))
			}
			flags, wrong := flag.Flags(h)
			means, _ := flag.Means(h)
			if e != api.OK || wrong != api.OK || flags&torn != 0 || strings.Trim(strings.ReplaceAll(fmt.Sprint(means), " ", ""), "[]") != number {
				t.Fatal(number, torn, reply, e)
			}
		}
	}
	if met[api.OK] < 100 || met[api.ErrFlag] < 100 {
		t.Error("hardly tried", met)
	}
}

// Lines that are none of the forms, behind one that has them all.
func TestNoForm(t *testing.T) {
	for _, line := range []string{
		"", " ", "sight", "sight ", "close ", " close", "close 0", "Close", "CLOSE", "closes", "clos", "say", "say 1 2", "found 0", "found 0 1 2", "error 0", "error 0 0 0", "best", "best 0 0", "off", "off 0 0", "torn", "torn 0 0", "mended", "mended 1 2",
		"hoist", "hoist 1 1", "drop", "drop 0 0", "event 0 1", "event 0 1 0 0", "sight 0 1 0 5", "sight 0 1 0 5 6 7", "no line", "0", "say  5", "say 5 ", " say 5", "say\t5", "say 5\n", "say 5\x00", "close\n", "\nclose", "close\r", "close\x7f", "clos\xe9",
		"say +5", "say --5", "say -", "say -0", "say 00", "say 05", "say -05", "say 5.", "say 5e3", "say 0x5", "say 1_0", "say ٣", "say 1000000000000", "say -1000000000000", "say 99999999999999999999", "say 0000000000001",
		"found -0 5", "found -1 5", "found 00 5", "found 0 -0", "off -1", "off 1000000000000", "torn -1", "torn 01", "torn +1", "mended -1", "drop -1", "drop 00", "best -1", "error -1 0", "error 0 -1", "event -1 1 0", "event 0 -1 0", "event 0 1 -1", "event 0 1 -0", "event 1000000000000 1 0",
		"sight -1 1 0 5 6", "sight 0 -1 0 5 6", "sight 0 1 -1 5 6", "sight 0 1 0 -0 6", "sight 0 1 0 5 -0", "sight 0 1 0 05 6", "sight 0 1 0 5 1000000000000", "sight 0 1 0 -1000000000000 6",
		"hoist -1", "hoist 12345", "hoist 00000", "hoist a", "hoist 1a", "hoist 1,1", "hoist +1", "hoist 1.1", "hoist ²", "close" + strings.Repeat(" 0", 98), "close" + strings.Repeat(" 0", 1000000), strings.Repeat(" ", 1000000), strings.Repeat("9", 201), "hoist " + strings.Repeat("1", 1000000),
	} {
		checkRefused(t, set(t, rates(), "close", "sight 0 1 0 5 6"), line, api.ErrCommand)
	}
}

// Numbers of up to twelve digits are numbers, and signed ones may be below 0.
func TestNumbers(t *testing.T) {
	x := set(t, rates())
	for _, c := range []step{
		{"say 999999999999", "", api.ErrInvalid}, {"say -999999999999", "", api.ErrInvalid}, {"sight 0 1 0 -999999999999 5", "", api.ErrInvalid}, {"sight 0 1 0 5 -999999999999", "", api.ErrInvalid}, {"found 0 -999999999999", "", api.ErrInvalid},
		{"sight 100000000000 1 0 5 6", "", api.ErrRange}, {"sight 0 999999999999 0 5 6", "", api.ErrInvalid}, {"sight 0 0 999999999999 5 6", "", api.ErrInvalid}, {"event 999999999999 1 0", "", api.ErrRange}, {"event 0 1 999999999999", "", api.ErrRange},
		{"error 999999999999 0", "", api.ErrName}, {"error 0 999999999999", "", api.ErrRange}, {"best 999999999999", "", api.ErrRange}, {"drop 999999999999", "", api.ErrName}, {"say 0", "entries 1", api.OK}, {"say -1", "entries 2", api.OK}, {"found 0 -10", "entries 3", api.OK}, {"off 0", "off -9", api.OK},
	} {
		checkLines(t, x, []step{c})
	}
}

// Whether a line has a form comes before what it asks for, and before what it would be refused for comes whether the book is full.
func TestFullBook(t *testing.T) {
	x := set(t, rates(), repeated(2000, "error 0 0")...)
	for _, line := range []string{"error 0 0", "close", "say 5", "torn 5", "hoist 1", "sight 0 1 0 5 6", "event 0 1 0", "torn 13", "mended 0", "drop 0", "best 0", "off 0", "found 5 5", "sight 86400000 1 1 6 5", "say 86400001"} {
		checkRefused(t, x, line, api.ErrLimit)
	}
	for _, line := range []string{"", "no line", "close 0", "say -0", "torn 0 "} {
		checkRefused(t, x, line, api.ErrCommand)
	}
	y, n, e := station.Replay(mast(), rates(), x.Book())
	if n != 2000 || e != api.OK || told(y) != told(x) || x.Book() != bookOf(repeated(2000, "error 0 0")...) {
		t.Fatal(n, e)
	}
	checkRefused(t, y, "close", api.ErrLimit)
	checkRefused(t, x.Copy(), "close", api.ErrLimit)
}

// A book may have days alone, and a time of the net is then further than any other book can tell.
func TestManyDays(t *testing.T) {
	x := set(t, rates(), repeated(1999, "close")...)
	all(t, x, "sight 86399999 1 0 5 6")
	if s := x.Net().Sights; len(s) != 1 || s[0].At != 2000*api.Day-1 || x.Day() != 1999 {
		t.Error(s, x.Day())
	}
	y, n, e := station.Replay(mast(), rates(), x.Book())
	if n != 2000 || e != api.OK || told(y) != told(x) {
		t.Error(n, e)
	}
}
