package ball_test

import (
	"math"
	"slices"
	"testing"

	"noongun/api"
	"noongun/ball"
)

// judged is the verdict of a log by the letter of the chapter, and where the first drop is.
func judged(x api.Mast, l []api.Event) (verdict, first int) {
	first = -1
	var flags []int
	for i, e := range l {
		if e.Kind == 4 && first < 0 {
			first = i
		}
		if e.Kind == 6 {
			flags = append(flags, i)
		}
	}
	if first < 0 {
		if len(flags) > 0 {
			return 4, first
		}
		return 5, first
	}
	at := l[first].At
	differs := func(from int) int { return max(at-from, from-at) }
	before := slices.ContainsFunc(flags, func(i int) bool { return i < first })
	behind := slices.ContainsFunc(flags, func(i int) bool { return i > first })
	switch {
	case differs(x.Noon) <= x.Late:
		return 0, first
	case at >= x.Noon+x.Again-x.Half && before && differs(x.Noon+x.Again) <= x.Late:
		return 3, first
	case behind:
		return 1, first
	}
	return 2, first
}

// checkVerdict holds Verdict, Off, Fault and the promises P4.4 against a log, all of whose events are allowed.
func checkVerdict(t *testing.T, x api.Mast, l []api.Event, s api.Ball) int {
	t.Helper()
	want, first := judged(x, l)
	v, e := ball.Verdict(x, l)
	if v != want || e != api.OK {
		t.Fatal(x, l, v, e, "not", want)
	}
	off, e := ball.Off(x, l)
	switch {
	case first < 0:
		if off != 0 || e != api.ErrNone {
			t.Fatal("Off", x, l, off, e)
		}
	case v == 3 && off != l[first].At-x.Noon-x.Again, v != 3 && off != l[first].At-x.Noon, e != api.OK:
		t.Fatal("Off", x, l, off, e)
	}
	if ball.Fault(v) != (v == 2 || v == 5) {
		t.Fatal("Fault", v)
	}
	if !s.Flag && len(l) < 100 {
		flag := api.Event{At: s.At, Kind: api.EFlag}
		if told, e := ball.Verdict(x, append(slices.Clone(l), flag)); e != api.OK || ball.Fault(told) {
			t.Fatal("a fault is not unsaid", x, l, told, e)
		}
	}
	return v
}

// All logs of a few events at all times that matter.
func TestAllShortLogs(t *testing.T) {
	for _, x := range masts() {
		found := map[int]int{}
		late := min(x.Noon+x.Late+1, x.Noon+x.Again-x.Half)
		times := []int{x.Noon - x.Half, x.Noon - x.Full, x.Noon, x.Noon + x.Late, late, x.Noon + x.Again - x.Half, x.Noon + x.Again - x.Full, x.Noon + x.Again, min(x.Noon+x.Again+x.Late+1, api.Day-1)}
		slices.Sort(times)
		times = slices.Compact(times)
		logs(t, x, times, 8, func(l []api.Event, s api.Ball) { found[checkVerdict(t, x, l, s)]++ })
		for v := range 6 {
			if found[v] == 0 {
				t.Error(x, "no log is", v, found)
			}
		}
	}
}

func TestAnyLogs(t *testing.T) {
	r := random()
	found := map[int]int{}
	for range 6000 {
		x := anyMast(r)
		l := anyLog(r, x, r.IntN(25))
		s, _, e := ball.Run(x, l)
		if e != api.OK {
			t.Fatal(x, l, e)
		}
		found[checkVerdict(t, x, l, s)]++
	}
	for v := range 6 {
		if found[v] < 20 {
			t.Error("hardly tried", found)
		}
	}
}

// P4.4: a ball that is down has been dropped or taken down, or never went up.
func TestBallsThatAreDown(t *testing.T) {
	r := random()
	up := 0
	for range 4000 {
		x := anyMast(r)
		l := anyLog(r, x, r.IntN(20))
		s, _, _ := ball.Run(x, l)
		went, came := -1, -1
		for i, e := range l {
			switch e.Kind {
			case api.EHalf, api.EFull, api.EStuck:
				went = i
			case api.EDrop, api.EFlag:
				came = i
			}
		}
		if (s.Place == api.BDown) != (went < 0 || came > went) {
			t.Fatal(x, l, s)
		}
		if s.Place != api.BDown {
			up++
		}
	}
	if up < 100 {
		t.Error("hardly tried", up)
	}
}

// dropped is the log of a ball that is dropped for the first time at a time from noon on.
func dropped(at int, more ...api.Event) []api.Event {
	return append([]api.Event{{At: 42900000, Kind: api.EHalf}, {At: 43080000, Kind: api.EFull}, {At: at, Kind: api.EDrop}}, more...)
}

// flagged is the log of a ball that is dropped behind a flag.
func flagged(at int, more ...api.Event) []api.Event {
	return append([]api.Event{{At: 42900000, Kind: api.EFlag}, {At: 42900000, Kind: api.EHalf}, {At: 43080000, Kind: api.EFull}, {At: at, Kind: api.EDrop}}, more...)
}

func TestVerdicts(t *testing.T) {
	flag := func(at int) api.Event { return api.Event{At: at, Kind: api.EFlag} }
	for _, c := range []struct {
		l            []api.Event
		verdict, off int
		e            api.Errno
	}{
		{nil, api.VSilent, 0, api.ErrNone}, {[]api.Event{flag(0)}, api.VTold, 0, api.ErrNone}, {[]api.Event{{At: 3, Kind: api.EWind, N: 9}}, api.VSilent, 0, api.ErrNone},
		{dropped(0)[:2], api.VSilent, 0, api.ErrNone}, {append(dropped(0)[:2], flag(43200000)), api.VTold, 0, api.ErrNone}, {append(dropped(0)[:2], api.Event{At: 43200000, Kind: api.EStuck}), api.VSilent, 0, api.ErrNone},
		{dropped(43080000), api.VFalse, -120000, api.OK}, {dropped(43199799), api.VFalse, -201, api.OK}, {dropped(43199800), api.VGood, -200, api.OK}, {dropped(43200000), api.VGood, 0, api.OK}, {dropped(43200200), api.VGood, 200, api.OK}, {dropped(43200201), api.VFalse, 201, api.OK},
		{dropped(43200200, flag(43200200)), api.VGood, 200, api.OK}, {dropped(43200201, flag(43200201)), api.VWrong, 201, api.OK}, {dropped(43080000, flag(50000000)), api.VWrong, -120000, api.OK},
		// without a flag before it no drop is one for the second noon
		{dropped(46800000), api.VFalse, 3600000, api.OK}, {dropped(46800000, flag(46800000)), api.VWrong, 3600000, api.OK},
		{flagged(43200000), api.VGood, 0, api.OK}, {flagged(43200201), api.VFalse, 201, api.OK}, {flagged(46799799), api.VFalse, 3599799, api.OK}, {flagged(46799800), api.VAgain, -200, api.OK}, {flagged(46800000), api.VAgain, 0, api.OK}, {flagged(46800200), api.VAgain, 200, api.OK}, {flagged(46800201), api.VFalse, 3600201, api.OK},
		// only the first drop counts
		{dropped(43200201, flag(43200201), api.Event{At: 46500000, Kind: api.EHalf}, api.Event{At: 46680000, Kind: api.EFull}, api.Event{At: 46800000, Kind: api.EDrop}), api.VWrong, 201, api.OK},
		{dropped(43200201, api.Event{At: 46500000, Kind: api.EHalf}, api.Event{At: 46680000, Kind: api.EFull}, api.Event{At: 46800000, Kind: api.EDrop}), api.VFalse, 201, api.OK},
		{dropped(43199999, api.Event{At: 46500000, Kind: api.EHalf}, api.Event{At: 46680000, Kind: api.EFull}, api.Event{At: 46800201, Kind: api.EDrop}), api.VGood, -1, api.OK},
	} {
		if v, e := ball.Verdict(mast(), c.l); v != c.verdict || e != api.OK {
			t.Error(c, v, e)
		}
		if off, e := ball.Off(mast(), c.l); off != c.off || e != c.e {
			t.Error("Off", c, off, e)
		}
	}
}

// Where both noons are within Late of each other, the first one decides.
func TestDropInTimeForBothNoons(t *testing.T) {
	x := api.Mast{Noon: 50000, Half: 1001, Full: 1000, Late: 1000, Again: 1001}
	for _, c := range []struct{ at, verdict, off int }{{50001, api.VGood, 1}, {51000, api.VGood, 1000}, {51001, api.VAgain, 0}, {52001, api.VAgain, 1000}, {52002, api.VFalse, 2002}} {
		l := []api.Event{{At: 48999, Kind: api.EFlag}, {At: 48999, Kind: api.EHalf}, {At: 49000, Kind: api.EFull}, {At: c.at, Kind: api.EDrop}}
		v, e := ball.Verdict(x, l)
		off, f := ball.Off(x, l)
		if v != c.verdict || off != c.off || e != api.OK || f != api.OK {
			t.Error(c, v, off, e, f)
		}
	}
}

// Before and after are by the index, also at the same time.
func TestEventsAtOneTime(t *testing.T) {
	// the ball may go to half mast for the second noon from the first one on, and to full mast at the same time
	x := api.Mast{Noon: 50000, Half: 2000, Full: 1000, Late: 0, Again: 2000}
	raised := []api.Event{{At: 48000, Kind: api.EHalf}, {At: 50001, Kind: api.EFull}}
	drop, flag := api.Event{At: 50001, Kind: api.EDrop}, api.Event{At: 50001, Kind: api.EFlag}
	up := []api.Event{{At: 50001, Kind: api.EFlag}, {At: 50001, Kind: api.EHalf}, {At: 50001, Kind: api.EFull}}
	for _, c := range []struct {
		l    []api.Event
		want int
	}{
		{append(slices.Clone(raised), drop), api.VFalse},
		{append(slices.Clone(raised), drop, flag), api.VWrong},
		{append(slices.Clone(raised), flag), api.VTold},
		{append(slices.Clone(up), drop), api.VFalse},
		{append(slices.Clone(up), api.Event{At: 52000, Kind: api.EDrop}), api.VAgain},
		{append(slices.Clone(up[1:]), drop, flag), api.VWrong},
		{append(slices.Clone(up[1:]), api.Event{At: 52000, Kind: api.EDrop}, api.Event{At: 52000, Kind: api.EFlag}), api.VWrong},
	} {
		if v, e := ball.Verdict(x, c.l); v != c.want || e != api.OK {
			t.Error(c, v, e)
		}
	}
}

// Verdict and Off have Run's errors.
func TestVerdictErrors(t *testing.T) {
	r := random()
	met := map[api.Errno]int{}
	check := func(x api.Mast, l []api.Event) {
		_, _, want := ball.Run(x, l)
		met[want]++
		v, e := ball.Verdict(x, l)
		off, f := ball.Off(x, l)
		if want != api.OK && (v != 0 || e != want || off != 0 || f != want) {
			t.Fatal(x, l, v, e, off, f, "not", want)
		}
	}
	for _, bad := range badMasts() {
		check(bad, nil)
		check(bad, dropped(43200000))
		check(bad, make([]api.Event, 200))
	}
	for _, bad := range badEvents() {
		check(mast(), []api.Event{bad})
		check(mast(), dropped(43200000, bad))
		check(mast(), append([]api.Event{bad}, dropped(43200000)...))
	}
	check(mast(), make([]api.Event, 101))
	check(mast(), dropped(43200000, api.Event{At: 43199999, Kind: api.EFlag}))
	for range 500 {
		check(mast(), append(anyLog(r, mast(), 6), api.Event{At: r.IntN(api.Day), Kind: 1 + r.IntN(6)}))
	}
	if met[api.ErrInvalid] < 50 || met[api.ErrRange] < 50 || met[api.ErrState] < 50 {
		t.Error("hardly tried", met)
	}
}

func TestFaultAndWord(t *testing.T) {
	words := []string{"good", "wrong", "false", "again", "told", "silent"}
	for v, want := range words {
		if s := ball.Word(v); s != want {
			t.Error(v, s)
		}
		if ball.Fault(v) != (want == "false" || want == "silent") {
			t.Error("Fault", v)
		}
	}
	for _, v := range []int{math.MinInt, -6, -1, 6, 7, math.MaxInt} {
		if s := ball.Word(v); s != "" || ball.Fault(v) {
			t.Error(v, s)
		}
	}
	for v, want := range map[int]string{api.VGood: "good", api.VWrong: "wrong", api.VFalse: "false", api.VAgain: "again", api.VTold: "told", api.VSilent: "silent"} {
		if ball.Word(v) != want {
			t.Error(v, want)
		}
	}
}

func TestCount(t *testing.T) {
	for _, c := range []struct {
		l    []int
		want [6]int
		e    api.Errno
	}{
		{nil, [6]int{}, api.OK}, {[]int{}, [6]int{}, api.OK}, {[]int{0}, [6]int{1}, api.OK}, {[]int{5, 4, 3, 2, 1, 0, 5, 5, 0}, [6]int{2, 1, 1, 1, 1, 3}, api.OK},
		{[]int{6}, [6]int{}, api.ErrRange}, {[]int{-1}, [6]int{}, api.ErrRange}, {[]int{0, 1, 6}, [6]int{}, api.ErrRange}, {[]int{0, -1, 1}, [6]int{}, api.ErrRange}, {[]int{math.MaxInt, 0}, [6]int{}, api.ErrRange}, {[]int{math.MinInt}, [6]int{}, api.ErrRange},
		{slices.Repeat([]int{0, 2, 2}, 100000), [6]int{100000, 0, 200000}, api.OK},
	} {
		if n, e := ball.Count(c.l); n != c.want || e != c.e {
			t.Errorf("Count(%.20v) = %v, %d", c.l[:min(len(c.l), 20)], n, e)
		}
	}
}
