package ball_test

import (
	"math"
	"slices"
	"testing"

	"noongun/api"
	"noongun/ball"
)

// stateGrid are states of all places, with and without flag, with winds next to the mast's.
func stateGrid(x api.Mast, times []int) []api.Ball {
	var l []api.Ball
	for place := range 4 {
		for _, wind := range []int{0, x.Wind, min(x.Wind+1, 1000), 1000} {
			for _, at := range times {
				l = append(l, api.Ball{Place: place, Wind: wind, At: at}, api.Ball{Place: place, Wind: wind, At: at, Flag: true})
			}
		}
	}
	return l
}

// All kinds at all moments, from states of all places, are as the chapter's table says.
func TestNextByTheTable(t *testing.T) {
	met := map[api.Errno]int{}
	for _, x := range masts() {
		times := moments(x)
		for _, s := range stateGrid(x, []int{0, x.Noon - x.Full, x.Noon, api.Day - 1}) {
			for kind := -1; kind <= 8; kind++ {
				for _, n := range []int{-1, 0, 1, 999, 1000, 1001} {
					for _, at := range append([]int{-1, api.Day, s.At}, times...) {
						e := api.Event{At: at, Kind: kind, N: n}
						want, wantError := next(x, s, e)
						met[wantError]++
						if got, err := ball.Next(x, s, e); got != want || err != wantError {
							t.Fatal(x, s, e, got, err, "not", want, wantError)
						}
					}
				}
			}
		}
	}
	if met[api.OK] < 1000 || met[api.ErrRange] < 1000 || met[api.ErrState] < 1000 {
		t.Error("hardly tried", met)
	}
}

func TestNextErrors(t *testing.T) {
	x, s, e := mast(), api.Ball{At: 43000000}, api.Event{At: 43000000, Kind: api.EFlag}
	for _, bad := range badMasts() {
		if got, err := ball.Next(bad, s, e); got != (api.Ball{}) || err != api.ErrInvalid {
			t.Error(bad, got, err)
		}
		if _, err := ball.Next(bad, s, api.Event{At: -1, Kind: 9, N: 7}); err != api.ErrInvalid {
			t.Error("ErrInvalid is not first", bad, err)
		}
	}
	for _, bad := range badStates() {
		if got, err := ball.Next(x, bad, e); got != (api.Ball{}) || err != api.ErrInvalid {
			t.Error(bad, got, err)
		}
		if _, err := ball.Next(x, bad, api.Event{At: math.MinInt, Kind: 9}); err != api.ErrInvalid {
			t.Error("ErrInvalid is not first", bad, err)
		}
	}
	for _, bad := range badEvents() {
		if got, err := ball.Next(x, api.Ball{}, bad); got != (api.Ball{}) || err != api.ErrRange {
			t.Error(bad, got, err)
		}
	}
	for kind := 1; kind <= 6; kind++ {
		if got, err := ball.Next(x, s, api.Event{At: 42999999, Kind: kind}); got != (api.Ball{}) || err != api.ErrRange {
			t.Error("before the state", kind, got, err)
		}
	}
	for _, c := range []struct{ place, kind int }{
		{api.BDown, api.EFull}, {api.BDown, api.EDrop}, {api.BDown, api.EStuck}, {api.BHalf, api.EHalf}, {api.BHalf, api.EDrop}, {api.BHalf, api.EStuck},
		{api.BFull, api.EHalf}, {api.BFull, api.EFull}, {api.BStuck, api.EHalf}, {api.BStuck, api.EFull}, {api.BStuck, api.EDrop}, {api.BStuck, api.EStuck},
	} {
		for _, at := range moments(x) {
			if got, err := ball.Next(x, api.Ball{Place: c.place}, api.Event{At: at, Kind: c.kind}); got != (api.Ball{}) || err != api.ErrState {
				t.Error(c, at, got, err)
			}
		}
	}
	if _, err := ball.Next(x, api.Ball{Flag: true}, api.Event{At: 5, Kind: api.EFlag}); err != api.ErrState {
		t.Error("a flag that is up", err)
	}
	if _, err := ball.Next(x, api.Ball{Flag: true}, api.Event{At: 5, Kind: api.EFlag, N: 1}); err != api.ErrRange {
		t.Error("ErrRange is not before ErrState", err)
	}
}

func TestWind(t *testing.T) {
	x := mast()
	for _, c := range []struct {
		winds []int
		want  api.Errno
	}{
		{nil, api.OK}, {[]int{60}, api.OK}, {[]int{61}, api.ErrState}, {[]int{61, 0}, api.ErrState}, {[]int{1000, 5, 5}, api.ErrState}, {[]int{0, 60, 59}, api.OK},
	} {
		var l []api.Event
		for i, n := range c.winds {
			l = append(l, api.Event{At: i, Kind: api.EWind, N: n})
		}
		s, n, e := ball.Run(x, l)
		if want := slices.Max(append([]int{0}, c.winds...)); s.Wind != want || n != len(l) || e != api.OK {
			t.Error(c, s, n, e)
		}
		if _, n, e := ball.Run(x, append(l, api.Event{At: 43000000, Kind: api.EHalf})); e != c.want || e != api.OK && n != len(l) {
			t.Error(c, n, e)
		}
	}
	// the wind keeps no ball from going on
	l := []api.Event{{At: 42900000, Kind: api.EHalf}, {At: 42900000, Kind: api.EWind, N: 1000}, {At: 43080000, Kind: api.EFull}, {At: 43200000, Kind: api.EDrop}}
	if s, n, e := ball.Run(x, l); s != (api.Ball{Wind: 1000, At: 43200000}) || n != 4 || e != api.OK {
		t.Error(s, n, e)
	}
}

// The windows of EHalf and EFull, at their ends.
func TestWindows(t *testing.T) {
	x := mast()
	for _, c := range []struct {
		place, kind, at int
		want            api.Errno
	}{
		{api.BDown, api.EHalf, 42899999, api.ErrState}, {api.BDown, api.EHalf, 42900000, api.OK}, {api.BDown, api.EHalf, 43079999, api.OK}, {api.BDown, api.EHalf, 43080000, api.ErrState},
		{api.BDown, api.EHalf, 46499999, api.ErrState}, {api.BDown, api.EHalf, 46500000, api.OK}, {api.BDown, api.EHalf, 46679999, api.OK}, {api.BDown, api.EHalf, 46680000, api.ErrState},
		{api.BHalf, api.EFull, 43079999, api.ErrState}, {api.BHalf, api.EFull, 43080000, api.OK}, {api.BHalf, api.EFull, 45000000, api.OK}, {api.BHalf, api.EFull, 46800000, api.OK}, {api.BHalf, api.EFull, 46800001, api.ErrState},
		{api.BFull, api.EDrop, 0, api.OK}, {api.BFull, api.EDrop, api.Day - 1, api.OK}, {api.BFull, api.EStuck, 0, api.OK}, {api.BFull, api.EStuck, api.Day - 1, api.OK},
		{api.BDown, api.EFlag, 0, api.OK}, {api.BStuck, api.EFlag, api.Day - 1, api.OK}, {api.BStuck, api.EWind, api.Day - 1, api.OK}, {api.BDown, api.EWind, 0, api.OK},
	} {
		for _, flag := range []bool{false, true} {
			want := c.want
			if flag && c.kind == api.EFlag {
				want = api.ErrState
			}
			if _, e := ball.Next(x, api.Ball{Place: c.place, Flag: flag}, api.Event{At: c.at, Kind: c.kind}); e != want {
				t.Error(c, flag, e)
			}
		}
	}
}

func TestRunErrors(t *testing.T) {
	x := mast()
	for _, bad := range badMasts() {
		if s, n, e := ball.Run(bad, make([]api.Event, 101)); s != (api.Ball{}) || n != 0 || e != api.ErrInvalid {
			t.Error(bad, s, n, e)
		}
		if s, n, e := ball.Run(bad, nil); s != (api.Ball{}) || n != 0 || e != api.ErrInvalid {
			t.Error(bad, s, n, e)
		}
	}
	plan, _ := ball.Plan(x)
	for _, bad := range badEvents() {
		for i := range len(plan) + 1 {
			l := slices.Concat(plan[:i], []api.Event{bad}, plan[i:])
			if s, n, e := ball.Run(x, l); s != (api.Ball{}) || n != i || e != api.ErrRange {
				t.Error(l, s, n, e)
			}
		}
	}
	for i, l := range [][]api.Event{
		{{At: 5, Kind: api.EDrop}, {At: -1}}, {{At: 6, Kind: api.EFlag}, {At: 6, Kind: api.EFlag}, {At: 5, Kind: 0}},
		{{At: 6, Kind: api.EFlag}, {At: 6, Kind: api.EWind}, {At: 7, Kind: api.EFlag}},
	} {
		if s, n, e := ball.Run(x, l); s != (api.Ball{}) || n != i || e != api.ErrState {
			t.Error(l, s, n, e)
		}
	}
	if s, n, e := ball.Run(x, []api.Event{{At: 6, Kind: api.EFlag}, {At: 5, Kind: api.EFlag}}); s != (api.Ball{}) || n != 1 || e != api.ErrRange {
		t.Error("order is not before what is allowed", s, n, e)
	}
}

func TestHowManyEvents(t *testing.T) {
	x := mast()
	for _, c := range []struct{ events, allowed int }{{0, 0}, {1, 1}, {99, 99}, {100, 100}, {101, 0}, {102, 0}, {100000, 0}} {
		l := slices.Repeat([]api.Event{{At: 7, Kind: api.EWind, N: 3}}, c.events)
		want, wantError := api.Ball{}, api.OK
		if c.events > 100 {
			wantError = api.ErrRange
		} else if c.events > 0 {
			want = api.Ball{Wind: 3, At: 7}
		}
		if s, n, e := ball.Run(x, l); s != want || n != c.allowed || e != wantError {
			t.Error(c, s, n, e)
		}
		if _, e := ball.Verdict(x, l); e != wantError {
			t.Error("Verdict", c, e)
		}
	}
	// their number is asked first, also where the first event has an error
	l := slices.Repeat([]api.Event{{At: 7, Kind: api.EDrop}}, 101)
	if _, n, e := ball.Run(x, l); n != 0 || e != api.ErrRange {
		t.Error("too many", n, e)
	}
	if _, n, e := ball.Run(x, l[:100]); n != 0 || e != api.ErrState {
		t.Error("as many as may be", n, e)
	}
}

// runByNext is Run by Next alone.
func runByNext(x api.Mast, l []api.Event) (api.Ball, int, api.Errno) {
	s := api.Ball{}
	for i, event := range l {
		t, e := ball.Next(x, s, event)
		if e != api.OK {
			return api.Ball{}, i, e
		}
		s = t
	}
	return s, len(l), api.OK
}

// P4.3: Run is Next for each event.
func TestRunIsNextForEach(t *testing.T) {
	r := random()
	met := map[api.Errno]int{}
	for range 4000 {
		x := anyMast(r)
		l := anyLog(r, x, r.IntN(14))
		if r.IntN(3) == 0 && len(l) > 0 {
			bad := badEvents()
			at := r.IntN(len(l))
			l = slices.Insert(l, at, []api.Event{bad[r.IntN(len(bad))], anyEvent(r, x, api.Ball{}), {At: l[at].At, Kind: 1 + r.IntN(6)}}[r.IntN(3)])
		}
		want, wantCount, wantError := runByNext(x, l)
		s, n, e := ball.Run(x, l)
		met[e]++
		if s != want || n != wantCount || e != wantError {
			t.Fatal(x, l, s, n, e, "not", want, wantCount, wantError)
		}
	}
	if met[api.OK] < 500 || met[api.ErrRange] < 200 || met[api.ErrState] < 200 {
		t.Error("hardly tried", met)
	}
}

// P4.3: a kind is in May exactly if Next allows it.
func TestMayIsNext(t *testing.T) {
	for _, x := range masts() {
		times := moments(x)
		for _, s := range stateGrid(x, append([]int{5}, times[len(times)/2:]...)) {
			for _, at := range append([]int{-1, s.At - 1, s.At, api.Day}, times...) {
				got, e := ball.May(x, s, at)
				if at < s.At || at >= api.Day {
					if len(got) != 0 || e != api.ErrRange {
						t.Fatal(x, s, at, got, e)
					}
					continue
				}
				var want []int
				for kind := 1; kind <= 6; kind++ {
					if _, allowed := after(x, s, api.Event{At: at, Kind: kind}); allowed {
						want = append(want, kind)
					}
					if _, err := ball.Next(x, s, api.Event{At: at, Kind: kind}); (err == api.OK) != slices.Contains(got, kind) {
						t.Fatal(x, s, at, kind, got, err)
					}
				}
				if !slices.Equal(got, want) || e != api.OK {
					t.Fatal(x, s, at, got, e, "not", want)
				}
			}
		}
	}
}

func TestMay(t *testing.T) {
	x := mast()
	for _, c := range []struct {
		s    api.Ball
		at   int
		want []int
	}{
		{api.Ball{}, 0, []int{1, 6}}, {api.Ball{}, 42900000, []int{1, 2, 6}}, {api.Ball{Flag: true}, 42900000, []int{1, 2}}, {api.Ball{Wind: 61}, 42900000, []int{1, 6}}, {api.Ball{At: api.Day - 1, Flag: true}, api.Day - 1, []int{1}},
		{api.Ball{Place: api.BHalf}, 43080000, []int{1, 3, 6}}, {api.Ball{Place: api.BHalf}, 43079999, []int{1, 6}}, {api.Ball{Place: api.BFull}, 0, []int{1, 4, 5, 6}}, {api.Ball{Place: api.BStuck, Flag: true}, 43200000, []int{1}},
	} {
		if l, e := ball.May(x, c.s, c.at); !slices.Equal(l, c.want) || e != api.OK {
			t.Error(c, l, e)
		}
	}
	for _, at := range []int{math.MinInt, -1, 42999999, api.Day, math.MaxInt} {
		if l, e := ball.May(x, api.Ball{At: 43000000}, at); len(l) != 0 || e != api.ErrRange {
			t.Error(at, l, e)
		}
	}
	if l, e := ball.May(x, api.Ball{}, -1); len(l) != 0 || e != api.ErrRange {
		t.Error(l, e)
	}
	for _, at := range []int{0, -1, api.Day} {
		for _, bad := range badMasts() {
			if l, e := ball.May(bad, api.Ball{}, at); len(l) != 0 || e != api.ErrInvalid {
				t.Error(bad, l, e)
			}
		}
		for _, bad := range badStates() {
			if l, e := ball.May(x, bad, at); len(l) != 0 || e != api.ErrInvalid {
				t.Error(bad, l, e)
			}
		}
	}
}
