package station_test

import (
	"fmt"
	"math/rand/v2"
	"slices"
	"strings"
	"testing"

	"noongun/api"
	"noongun/ball"
	"noongun/sight"
	"noongun/station"
)

var sessionRates = []int{0, 10000, 0, 1000000, 20}

// pick returns one of some items.
func pick[T any](r *rand.Rand, items ...T) T {
	return items[r.IntN(len(items))]
}

// anyTime is mostly a time of the day.
func anyTime(r *rand.Rand) int {
	return pick(r, 0, 1, 1000000, 1000001, 43200000, 86399998, 86399999, r.IntN(86400000), r.IntN(86400000), 86400000, 999999999999)
}

// anySight has mostly clocks that are there, each of which is mostly 100 times its number ahead.
func anySight(r *rand.Rand) string {
	a, b := r.IntN(5), r.IntN(5)
	if r.IntN(20) == 0 {
		a = pick(r, 5, 8, 999999999999)
	}
	ahead := 100 * (a - b)
	if r.IntN(8) == 0 {
		ahead += pick(r, -86400000, -5000, -30, 30, 5000, 86400000)
	}
	return fmt.Sprintf("sight %d %d %d %d %d", anyTime(r), a, b, ahead-r.IntN(20), ahead+r.IntN(20)-1)
}

// anyEvent is mostly the next one of a day, not always in time.
func anyEvent(r *rand.Rand, m api.Mast, now api.Ball) string {
	noon := m.Noon
	if now.At >= m.Noon || r.IntN(20) == 0 {
		noon += m.Again
	}
	event := api.Event{At: r.IntN(api.Day), Kind: r.IntN(8), N: pick(r, 0, 0, 0, 10, 59, 60, 61, 1000, 1001, 999999999999)}
	if r.IntN(8) > 0 {
		event = [...]api.Event{
			api.BDown:  {At: noon - pick(r, m.Half+1, m.Half, m.Half, m.Half, m.Full+1, m.Full), Kind: api.EHalf},
			api.BHalf:  {At: noon - pick(r, m.Full+1, m.Full, m.Full, m.Full, 0), Kind: api.EFull},
			api.BFull:  {At: noon - pick(r, m.Late+1, m.Late, 0, -m.Late, -m.Late-1), Kind: pick(r, api.EDrop, api.EDrop, api.EStuck)},
			api.BStuck: {At: max(now.At, noon-m.Half), Kind: api.EFlag},
		}[now.Place]
	}
	switch r.IntN(30) {
	case 0:
		event.N = 1
	case 1:
		event = api.Event{At: now.At, Kind: api.EFlag}
	case 2:
		event = api.Event{At: now.At, Kind: api.EWind, N: 60}
	}
	return fmt.Sprintf("event %d %d %d", event.At, event.Kind, event.N)
}

// broken is a line with a byte more, a byte less or another one.
func broken(r *rand.Rand, line string) string {
	at := r.IntN(len(line))
	c := string(pick(r, ' ', '-', '+', '0', '1', 'x', '\t', '\n', 'é', '_', 0, 127))
	switch r.IntN(3) {
	case 0:
		return line[:at] + c + line[at:]
	case 1:
		return line[:at] + line[at+1:]
	}
	return line[:at] + c + line[at+1:]
}

func anyLine(r *rand.Rand, x *model) string {
	small := pick(r, -86400001, -86400000, -5, 0, 0, 7, 86400000, 86400001, -999999999999, 999999999999)
	line := pick(r, []func() string{
		func() string { return anySight(r) },
		func() string { return anySight(r) },
		func() string { return "close" },
		func() string { return fmt.Sprint("say ", small) },
		func() string { return fmt.Sprintf("found %d %d", max(0, x.day()-r.IntN(3)+r.IntN(2)), small) },
		func() string {
			return fmt.Sprintf("error %d %d", pick(r, 0, 1, 2, 3, 4, 4, 5, 999999999999), anyTime(r))
		},
		func() string { return fmt.Sprint("best ", anyTime(r)) },
		func() string { return fmt.Sprint("off ", pick(r, max(0, x.day()-r.IntN(3)), x.day(), 182985, 182986)) },
		func() string { return fmt.Sprint("torn ", r.IntN(14)) },
		func() string { return fmt.Sprint("mended ", r.IntN(14)) },
		func() string { return fmt.Sprint("hoist ", pick(r, "", "0", "7", "11"), r.IntN(100)) },
		func() string { return fmt.Sprint("drop ", pick(r, 0, 0, 1, r.IntN(5), 30, 999999999999)) },
	}...)()
	if r.IntN(3) == 0 {
		line = anyEvent(r, x.mast, x.ball())
	}
	if r.IntN(25) == 0 {
		return broken(r, line)
	}
	return line
}

// P10.1 to P10.5: any lines do what the chapter says, also those of a station that was copied.
func TestSessions(t *testing.T) {
	r := random()
	met := map[string]int{}
	for range 60 {
		x, y := set(t, sessionRates), modelOf(mast(), sessionRates)
		other, model := x.Copy(), y.copied()
		for range 160 {
			line := anyLine(r, y)
			reply, e := checkBoth(t, x, y, line)
			word, _, _ := strings.Cut(line, " ")
			if word == "close" {
				word += " " + reply
			}
			if e == api.ErrCommand {
				word = ""
			}
			met[fmt.Sprint(word, " ", e)]++
			switch r.IntN(20) {
			case 0:
				other, model = x.Copy(), y.copied()
			case 1: // the two go on by turns
				x, y, other, model = other, model, x, y
			}
			if told(other) != model.told() {
				t.Fatalf("%q changed another station: %s, not %s", line, told(other), model.told())
			}
		}
		checkReplays(t, x, y)
	}
	for _, want := range []string{
		" 12", "sight 0", "sight 7", "sight 1", "sight 9", "event 0", "event 7", "event 9", "close good 0", "close wrong 0", "close false 0", "close again 0", "close told 0", "close silent 0",
		"say 0", "say 1", "found 0", "found 7", "found 1", "error 0", "error 7", "error 5", "error 8", "best 0", "best 7", "best 8", "off 0", "off 7", "off 8",
		"torn 0", "torn 7", "torn 10", "mended 0", "mended 7", "mended 9", "hoist 0", "hoist 10", "drop 0", "drop 5",
	} {
		if met[want] < 8 {
			t.Error("hardly tried:", want, met[want])
		}
	}
}

// checkReplays holds all that a station's book makes against its model.
func checkReplays(t *testing.T, x *station.Station, y *model) {
	t.Helper()
	book := x.Book()
	z, done, e := station.Replay(mast(), sessionRates, book)
	if told(z) != y.told() || done != len(y.texts) || e != api.OK {
		t.Fatal(told(z), done, e)
	}
	if replies, e := station.Replies(mast(), sessionRates, book); !slices.Equal(replies, y.replies) || e != api.OK {
		t.Fatal(replies, y.replies, e)
	}
	var faults []int
	for day, v := range y.verdicts() {
		if v == api.VFalse || v == api.VSilent {
			faults = append(faults, day)
		}
	}
	if days, e := station.Faults(mast(), sessionRates, book); !slices.Equal(days, faults) || e != api.OK {
		t.Fatal(days, faults, e)
	}
}

// P10.3, P10.4 and the second part of P10.6
func TestAlways(t *testing.T) {
	r := random()
	narrower, dropped := 0, 0
	for range 20 {
		x, y := set(t, sessionRates), modelOf(mast(), sessionRates)
		for range 150 {
			line := anyLine(r, y)
			if r.IntN(3) == 0 {
				line = anySight(r)
			}
			before := x.Net()
			_, e := checkBoth(t, x, y, line)
			if right, e := sight.Consistent(x.Net()); !right || e != api.OK {
				t.Fatal(line, x.Net(), e)
			}
			if _, n, e := ball.Run(mast(), x.Log()); n != len(x.Log()) || e != api.OK {
				t.Fatal(line, x.Log(), n, e)
			}
			if e != api.OK || !strings.HasPrefix(line, "drop") {
				continue
			}
			dropped++
			narrower += checkNoNarrower(t, before, x.Net(), x.Day()*api.Day+r.IntN(api.Day))
		}
	}
	if dropped < 30 || narrower < 10 {
		t.Error("hardly tried:", dropped, narrower)
	}
}

// checkNoNarrower returns how many clocks of a net are known less well at a time after a sight was dropped.
func checkNoNarrower(t *testing.T, before, after api.Net, at int) int {
	t.Helper()
	wider := 0
	for clock := range before.Rates {
		s, e := sight.Error(before, clock, at)
		now, none := sight.Error(after, clock, at)
		if none == api.OK && (e != api.OK || now.Lo > s.Lo || now.Hi < s.Hi) {
			t.Fatal("narrower", before, after, clock, at, s, e, now)
		}
		if none != e || now != s {
			wider++
		}
	}
	return wider
}
