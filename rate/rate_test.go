package rate_test

import (
	"math"
	"math/big"
	"slices"
	"strings"
	"testing"

	"noongun/api"
	"noongun/rate"
)

func TestValidBox(t *testing.T) {
	for _, b := range []api.Box{
		example(), box("a", 0, 0), box("z", -86400000, 86400000), box("abcdefghijklmnop", 1, 2), box("a_", 1, 2), box("z09_z", 1, 2), box("a________________"[:16], 5, 5), box("a", make([]int, 400)...), box("a", make([]int, 399)...),
	} {
		if !rate.ValidBox(b) {
			t.Error("not valid", b)
		}
	}
	for _, b := range badBoxes() {
		if rate.ValidBox(b) {
			t.Error("valid", b)
		}
	}
	// Each byte, at the beginning and behind it.
	const small, others = "abcdefghijklmnopqrstuvwxyz", "0123456789_"
	for i := range 256 {
		c := string([]byte{byte(i)})
		if rate.ValidBox(box(c, 1, 2)) != strings.Contains(small, c) {
			t.Errorf("%q", c)
		}
		if rate.ValidBox(box("a"+c, 1, 2)) != strings.Contains(small+others, c) {
			t.Errorf("a and %q", c)
		}
	}
}

func TestValidBoxes(t *testing.T) {
	r := random()
	for n := 1; n <= 16; n++ {
		l := anyBoxes(r, n, 2, 400)
		if !rate.ValidBoxes(l) {
			t.Error("not valid", n)
		}
		if n > 1 {
			l[n-1].Name = l[r.IntN(n-1)].Name
			if rate.ValidBoxes(l) {
				t.Error("a name is there twice", n)
			}
		}
	}
	// Only names tell boxes apart.
	if !rate.ValidBoxes([]api.Box{box("a", 1, 2), box("b", 1, 2), box("aa", 1, 2)}) {
		t.Error("boxes with as many errors")
	}
	for _, l := range badLists() {
		if rate.ValidBoxes(l) {
			t.Error("valid", len(l), l[:min(len(l), 3)])
		}
	}
}

func TestRates(t *testing.T) {
	r := random()
	for count := 2; count <= 400; count++ {
		b := anyBox(r, "a", count)
		if l, e := rate.Daily(b); !slices.Equal(l, daily(b)) || e != api.OK {
			t.Fatal("Daily", b, l, e)
		}
		want := api.OK
		if count < 8 {
			want = api.ErrNone
		}
		if l, e := rate.Weekly(b); !slices.Equal(l, weekly(b)) || e != want {
			t.Fatal("Weekly", b, l, e)
		}
	}
	for _, c := range []struct {
		b             api.Box
		daily, weekly []int
		e             api.Errno
	}{
		{box("a", 5, 3), []int{-2}, nil, api.ErrNone}, {box("a", 1, 2, 4, 8, 16, 32, 64), []int{1, 2, 4, 8, 16, 32}, nil, api.ErrNone}, {box("a", 1, 2, 4, 8, 16, 32, 64, 128), []int{1, 2, 4, 8, 16, 32, 64}, []int{127}, api.OK},
		{box("a", api.Day, -api.Day, api.Day), []int{-172800000, 172800000}, nil, api.ErrNone},
		{example(), []int{7, 7, 7, 7, 7, 7, 7, 8, 8, 8, 8, 8, 8, 8}, []int{49, 56}, api.OK},
		{box("a", append(example().Errors, 1, 2, 3, 4, 5, 6)...), []int{7, 7, 7, 7, 7, 7, 7, 8, 8, 8, 8, 8, 8, 8, -104, 1, 1, 1, 1, 1}, []int{49, 56}, api.OK},
	} {
		if l, e := rate.Daily(c.b); !slices.Equal(l, c.daily) || e != api.OK {
			t.Error("Daily", c, l, e)
		}
		if l, e := rate.Weekly(c.b); !slices.Equal(l, c.weekly) || e != c.e {
			t.Error("Weekly", c, l, e)
		}
	}
}

func TestMean(t *testing.T) {
	for _, c := range []struct {
		b    api.Box
		want api.Ratio
	}{
		{box("a", 5, 3), api.Ratio{N: -2, D: 1}}, {box("a", 0, 9, 1), api.Ratio{N: 1, D: 2}}, {box("a", 4, 9, 4), api.Ratio{N: 0, D: 1}}, {box("a", 7, 0, 0, 9, 3), api.Ratio{N: -1, D: 1}}, {box("a", 0, 0, 0, 4), api.Ratio{N: 4, D: 3}}, {box("a", 0, 5, 5, 6, -2), api.Ratio{N: -1, D: 2}},
		{example(), api.Ratio{N: 15, D: 2}}, {box("a", -api.Day, api.Day), api.Ratio{N: 172800000, D: 1}}, {box("a", api.Day, 0, -api.Day+1), api.Ratio{N: -172799999, D: 2}},
	} {
		if m, e := rate.Mean(c.b); m != c.want || e != api.OK {
			t.Error(c, m, e)
		}
	}
}

// P6.2
func TestSums(t *testing.T) {
	r := random()
	for range 3000 {
		b := anyBox(r, "a", 2+r.IntN(399))
		all, _ := rate.Daily(b)
		first, last := b.Errors[0], b.Errors[len(b.Errors)-1]
		if len(all) != len(b.Errors)-1 || sum(all) != last-first {
			t.Fatal("Daily", b, all)
		}
		weekly, _ := rate.Weekly(b)
		if len(weekly) != len(all)/7 {
			t.Fatal("Weekly", b, weekly)
		}
		for j, n := range weekly {
			if n != sum(all[7*j:7*j+7]) {
				t.Fatal("Weekly", b, weekly)
			}
		}
		want := big.NewRat(int64(sum(all)), int64(len(all)))
		if m, e := rate.Mean(b); int64(m.N) != want.Num().Int64() || int64(m.D) != want.Denom().Int64() || e != api.OK {
			t.Fatal("Mean", b, m, e)
		}
	}
}

func TestLeaps(t *testing.T) {
	for _, c := range []struct {
		b    api.Box
		most int
		want []int
	}{
		{box("a", 5, 3), 0, nil}, {box("a", -api.Day, api.Day), 0, nil}, {box("a", 0, 1, 2), 0, nil}, {box("a", 0, 1, 3), 0, []int{1}}, {box("a", 0, 1, 3), 1, nil}, {box("a", 0, 3, 4), 1, []int{1}}, {box("a", 0, 3, 4), 2, nil},
		{box("a", 0, 5, 10, 10, 10, 5), 4, []int{2, 4}}, {box("a", 0, 5, 10, 10, 10, 5), 5, nil}, {example(), 0, []int{7}}, {example(), 1, nil}, {example(), math.MaxInt, nil},
		{box("a", api.Day, -api.Day, api.Day, -api.Day), 345599999, []int{1, 2}}, {box("a", api.Day, -api.Day, api.Day, -api.Day), 345600000, nil},
	} {
		if l, e := rate.Leaps(c.b, c.most); !slices.Equal(l, c.want) || e != api.OK {
			t.Error(c, l, e)
		}
	}
	r := random()
	found := 0
	for range 5000 {
		b := anyBox(r, "a", 2+r.IntN(30))
		rates := daily(b)
		most := []int{0, 1, r.IntN(10), r.IntN(3000), r.IntN(400000000)}[r.IntN(5)]
		var want []int
		for i := 1; i < len(rates); i++ {
			if rates[i]-rates[i-1] > most || rates[i-1]-rates[i] > most {
				want = append(want, i)
			}
		}
		found += len(want)
		if l, e := rate.Leaps(b, most); !slices.Equal(l, want) || e != api.OK {
			t.Fatal(b, most, l, e)
		}
	}
	if found < 5000 {
		t.Error("hardly tried", found)
	}
	for _, most := range []int{-1, -2, math.MinInt} {
		if l, e := rate.Leaps(example(), most); len(l) != 0 || e != api.ErrRange {
			t.Error(most, l, e)
		}
	}
}

func TestShifted(t *testing.T) {
	long := box("a", make([]int, 400)...)
	for _, c := range []struct {
		b       api.Box
		by, per int
		want    []int
		e       api.Errno
	}{
		{box("a", 5, 3, 9), 0, 0, []int{5, 3, 9}, api.OK}, {box("a", 5, 3, 9), 10, 0, []int{15, 13, 19}, api.OK}, {box("a", 5, 3, 9), -1, 10, []int{4, 12, 28}, api.OK}, {box("a", 5, 3, 9), 0, -100, []int{5, -97, -191}, api.OK},
		{box("a", 0, 1), api.Day, -1000000, []int{api.Day, api.Day - 999999}, api.OK}, {box("a", 0, 1), api.Day, -1, []int{api.Day, api.Day}, api.OK}, {box("a", 0, 1), api.Day, 0, nil, api.ErrLimit}, {box("a", 1, 0), api.Day, 0, nil, api.ErrLimit},
		{box("a", 0, -1), -api.Day, 1, []int{-api.Day, -api.Day}, api.OK}, {box("a", 0, -1), -api.Day, 0, nil, api.ErrLimit}, {box("a", 7, 0), -api.Day, 1000000, []int{7 - api.Day, 1000000 - api.Day}, api.OK},
		{box("a", api.Day, api.Day), -1, 1, []int{api.Day - 1, api.Day}, api.OK}, {box("a", api.Day, api.Day), -1, 2, nil, api.ErrLimit}, {box("a", api.Day, api.Day), -api.Day, 1000000, []int{0, 1000000}, api.OK},
		{long, 0, 1000000, nil, api.ErrLimit}, {long, 0, -1000000, nil, api.ErrLimit}, {long, api.Day, 1, nil, api.ErrLimit},
		{box("a", 0, 1), api.Day + 1, 0, nil, api.ErrRange}, {box("a", 0, 1), -api.Day - 1, 0, nil, api.ErrRange}, {box("a", 0, 1), 0, 1000001, nil, api.ErrRange}, {box("a", 0, 1), 0, -1000001, nil, api.ErrRange},
		{box("a", 0, 1), math.MinInt, 0, nil, api.ErrRange}, {box("a", 0, 1), math.MaxInt, 0, nil, api.ErrRange}, {box("a", 0, 1), 0, math.MinInt, nil, api.ErrRange}, {box("a", 0, 1), 0, math.MaxInt, nil, api.ErrRange},
		{box("a", api.Day, 0), api.Day + 1, 0, nil, api.ErrRange}, {box("a", api.Day, api.Day), 5, 1000001, nil, api.ErrRange}, // ErrRange before ErrLimit
	} {
		b, e := rate.Shifted(c.b, c.by, c.per)
		if e != c.e || e == api.OK && !same(b, box("a", c.want...)) || e != api.OK && !none(b) {
			t.Error(c.b.Errors[:2], c.by, c.per, b, e)
		}
	}
	r := random()
	met := map[api.Errno]int{}
	for range 5000 {
		b := anyBox(r, "box", 2+r.IntN(399))
		by, per := r.IntN(2*api.Day+1)-api.Day, r.IntN(2000001)-1000000
		if r.IntN(3) > 0 {
			by, per = by/1000, per/1000
		}
		want, wantError := box(b.Name), api.OK
		for i, n := range b.Errors {
			want.Errors = append(want.Errors, n+by+per*i)
		}
		if slices.Min(want.Errors) < -api.Day || slices.Max(want.Errors) > api.Day {
			want, wantError = api.Box{}, api.ErrLimit
		}
		got, e := rate.Shifted(b, by, per)
		met[e]++
		if !same(got, want) || e != wantError {
			t.Fatal(b, by, per, got, e)
		}
	}
	if met[api.OK] < 500 || met[api.ErrLimit] < 500 {
		t.Error("hardly tried", met)
	}
}

func TestJoined(t *testing.T) {
	for _, c := range []struct {
		a, b api.Box
		want []int
		e    api.Errno
	}{
		{box("a", 1, 2), box("b", 2, 3), []int{1, 2, 3}, api.OK}, {box("a", 1, 2), box("b", 102, 103, 90), []int{1, 2, 3, -10}, api.OK}, {box("a", 1, -5, 7), box("a", 0, 0, 0), []int{1, -5, 7, 7, 7}, api.OK},
		{box("a", 0, api.Day), box("b", api.Day, -api.Day), []int{0, api.Day, -api.Day}, api.OK}, {box("a", 0, api.Day), box("b", -api.Day, -api.Day), []int{0, api.Day, api.Day}, api.OK},
		{box("a", 0, api.Day), box("b", 0, 1), nil, api.ErrLimit}, {box("a", 0, api.Day), box("b", 5, 4, 6), nil, api.ErrLimit}, {box("a", 0, -api.Day), box("b", 0, -1), nil, api.ErrLimit}, {box("a", 0, -api.Day), box("b", 0, 1), []int{0, -api.Day, 1 - api.Day}, api.OK}, {box("a", 0, -api.Day), box("b", api.Day, -api.Day), nil, api.ErrLimit},
		{box("a", make([]int, 399)...), box("b", 7, 7), make([]int, 400), api.OK}, {box("a", 7, 7), box("b", make([]int, 399)...), slices.Repeat([]int{7}, 400), api.OK}, {box("a", make([]int, 200)...), box("b", make([]int, 201)...), make([]int, 400), api.OK},
		{box("a", make([]int, 400)...), box("b", 7, 7), nil, api.ErrLimit}, {box("a", make([]int, 399)...), box("b", 7, 7, 7), nil, api.ErrLimit}, {box("a", 7, 7), box("b", make([]int, 400)...), nil, api.ErrLimit}, {box("a", make([]int, 400)...), box("b", make([]int, 400)...), nil, api.ErrLimit},
	} {
		b, e := rate.Joined(c.a, c.b)
		if e != c.e || e == api.OK && !same(b, box("a", c.want...)) || e != api.OK && !none(b) {
			t.Error(len(c.a.Errors), len(c.b.Errors), b, e)
		}
	}
}

// P6.5: Joined's daily rates are those of both.
func TestJoinedRates(t *testing.T) {
	r := random()
	met := map[api.Errno]int{}
	for range 5000 {
		a, b := anyBox(r, "first", 2+r.IntN(220)), anyBox(r, "second", 2+r.IntN(220))
		joined, e := rate.Joined(a, b)
		met[e]++
		if e != api.OK {
			by := a.Errors[len(a.Errors)-1] - b.Errors[0]
			fits := len(a.Errors)+len(b.Errors) <= 401 && slices.Max(b.Errors)+by <= api.Day && slices.Min(b.Errors)+by >= -api.Day
			if e != api.ErrLimit || fits || !none(joined) {
				t.Fatal(a, b, joined, e)
			}
			continue
		}
		if !rate.ValidBox(joined) || joined.Name != "first" || !slices.Equal(joined.Errors[:len(a.Errors)], a.Errors) || !slices.Equal(daily(joined), slices.Concat(daily(a), daily(b))) {
			t.Fatal(a, b, joined)
		}
	}
	if met[api.OK] < 500 || met[api.ErrLimit] < 500 {
		t.Error("hardly tried", met)
	}
}

// A box that is not valid comes before all else that may be wrong.
func TestInvalidBoxes(t *testing.T) {
	check := func(what string, b api.Box, zero bool, e api.Errno) {
		t.Helper()
		if !zero || e != api.ErrInvalid {
			t.Error(what, b.Name, len(b.Errors), zero, e)
		}
	}
	good := example()
	for _, b := range badBoxes() {
		l, e := rate.Daily(b)
		check("Daily", b, len(l) == 0, e)
		l, e = rate.Weekly(b)
		check("Weekly", b, len(l) == 0, e)
		m, e := rate.Mean(b)
		check("Mean", b, m == api.Ratio{}, e)
		x, e := rate.Trial(b)
		check("Trial", b, x == api.Trial{}, e)
		for _, n := range []int{1, 0, -1, 1000} {
			l, e = rate.Leaps(b, n)
			check("Leaps", b, len(l) == 0, e)
			s, e := rate.Ahead(b, n, 1)
			check("Ahead", b, s == api.Span{}, e)
			s, e = rate.Ahead(b, 1, n)
			check("Ahead", b, s == api.Span{}, e)
			y, e := rate.Shifted(b, n, math.MaxInt)
			check("Shifted", b, none(y), e)
			y, e = rate.Shifted(b, n, 0)
			check("Shifted", b, none(y), e)
		}
		for _, pair := range [][2]api.Box{{b, good}, {good, b}, {b, b}} {
			y, e := rate.Joined(pair[0], pair[1])
			check("Joined", b, none(y), e)
		}
	}
}
