package night_test

import (
	"math"
	"math/rand/v2"
	"slices"
	"testing"

	"noongun/api"
	"noongun/night"
)

// isRota is by the letter of the chapter.
func isRota(can []int, most int, rota []int) bool {
	if len(rota) != len(can) {
		return false
	}
	for n, o := range rota {
		if o < 0 || o > 7 || can[n]&(1<<o) == 0 || n > 0 && rota[n-1] == o {
			return false
		}
		times := 0
		for _, other := range rota {
			if other == o {
				times++
			}
		}
		if times > most {
			return false
		}
	}
	return true
}

// rotasOf tries all lists of observers.
func rotasOf(can []int, observers, most int) [][]int {
	var l [][]int
	for _, rota := range lists(len(can), 0, observers-1) {
		if isRota(can, most, rota) {
			l = append(l, rota)
		}
	}
	return l
}

// walked counts the rotas one by one, going on where one can, and returns the first one.
func walked(can []int, observers, most int) (first []int, count int) {
	var times [8]int
	rota := make([]int, 0, len(can))
	var walk func()
	walk = func() {
		n := len(rota)
		if n == len(can) {
			if count == 0 {
				first = slices.Clone(rota)
			}
			count++
			return
		}
		for o := range observers {
			if can[n]&(1<<o) == 0 || times[o] == most || n > 0 && rota[n-1] == o {
				continue
			}
			times[o]++
			rota = append(rota, o)
			walk()
			rota = rota[:n]
			times[o]--
		}
	}
	walk()
	return first, count
}

func anyNights(r *rand.Rand, nights, observers int) []int {
	can := make([]int, nights)
	for n := range can {
		can[n] = r.IntN(1 << observers)
		if r.IntN(2) == 0 {
			can[n] |= r.IntN(1 << observers)
		}
	}
	return can
}

func checkRotas(t *testing.T, can []int, observers, most int, first []int, count int) {
	t.Helper()
	wantError := api.OK
	if count == 0 {
		wantError = api.ErrNone
	}
	if rota, e := night.Rota(can, observers, most); !slices.Equal(rota, first) || e != wantError {
		t.Fatal("Rota", can, observers, most, rota, e, first)
	}
	if n, e := night.Rotas(can, observers, most); n != count || e != api.OK {
		t.Fatal("Rotas", can, observers, most, n, e, count)
	}
	if got := night.IsRota(can, observers, most, first); got != (count > 0) {
		t.Fatal("IsRota", can, observers, most, first)
	}
}

func TestRotas(t *testing.T) {
	for _, c := range []struct {
		can             []int
		observers, most int
		first           []int
		count           int
	}{
		{nil, 1, 0, nil, 1}, {nil, 8, 12, nil, 1}, {[]int{1}, 1, 1, []int{0}, 1}, {[]int{1}, 1, 0, nil, 0}, {[]int{0}, 1, 1, nil, 0}, {[]int{1, 1}, 1, 12, nil, 0}, {[]int{3, 3}, 2, 1, []int{0, 1}, 2}, {[]int{3, 3, 3}, 2, 1, nil, 0}, {[]int{3, 3, 3}, 2, 2, []int{0, 1, 0}, 2},
		{[]int{7, 1}, 3, 12, []int{1, 0}, 2}, {[]int{7, 7, 7}, 3, 1, []int{0, 1, 2}, 6}, {[]int{7, 7, 7}, 3, 2, []int{0, 1, 0}, 12}, {[]int{7, 7, 7, 1}, 3, 1, nil, 0}, {[]int{7, 7, 6, 1}, 3, 2, []int{0, 1, 2, 0}, 8}, {[]int{7, 7, 6, 1}, 3, 1, nil, 0}, {[]int{7, 7, 6, 1}, 3, 12, []int{0, 1, 2, 0}, 8}, {[]int{128}, 8, 12, []int{7}, 1},
		{[]int{255, 255}, 8, 12, []int{0, 1}, 56}, {[]int{3, 3, 0}, 2, 12, nil, 0},
	} {
		checkRotas(t, c.can, c.observers, c.most, c.first, c.count)
	}
	for observers := 1; observers <= 8; observers++ { // without a limit: all but the last one's observer
		can, want := []int(nil), observers
		for nights := 1; nights <= 12; nights++ {
			can = append(can, 1<<observers-1)
			for _, most := range []int{(nights + 1) / 2, 12} {
				if n, e := night.Rotas(can, observers, most); n != want || e != api.OK {
					t.Error(nights, observers, n, e, want)
				}
			}
			want *= observers - 1
		}
	}
	// Each of six on two of twelve nights: all orders, less those in which one is on two nights that follow each other, and so on.
	want, sign := 0, 1
	for k := 0; k <= 6; k++ {
		want += sign * binomial(6, k) * factorial(12-k) >> (6 - k)
		sign = -sign
	}
	if n, e := night.Rotas(slices.Repeat([]int{63}, 12), 6, 2); n != want || n != 2631600 || e != api.OK {
		t.Error(n, e, want)
	}
}

func factorial(n int) int {
	p := 1
	for i := 2; i <= n; i++ {
		p *= i
	}
	return p
}

func binomial(n, k int) int {
	return factorial(n) / factorial(k) / factorial(n-k)
}

func TestAllRotas(t *testing.T) {
	r := random()
	met := map[bool]int{}
	for range 1500 {
		observers, most := 1+r.IntN(4), r.IntN(5)
		can := anyNights(r, r.IntN(6), observers)
		all := rotasOf(can, observers, most)
		met[len(all) == 0]++
		first := []int(nil)
		if len(all) > 0 {
			first = all[0]
		}
		checkRotas(t, can, observers, most, first, len(all))
		for _, rota := range lists(len(can), -1, observers) {
			if night.IsRota(can, observers, most, rota) != isRota(can, most, rota) {
				t.Fatal("IsRota", can, observers, most, rota)
			}
		}
	}
	if met[true] < 300 || met[false] < 300 {
		t.Error("hardly tried", met)
	}
}

func TestLongRotas(t *testing.T) {
	r := random()
	sum := 0
	for range 400 {
		observers, nights, most := 1+r.IntN(8), 6+r.IntN(7), r.IntN(5)
		can := anyNights(r, nights, observers)
		for n := range can { // few can be there, or else there are too many rotas to walk
			can[n] &= anyNights(r, 1, observers)[0]
			can[n] |= 1 << r.IntN(observers)
		}
		first, count := walked(can, observers, most)
		sum += count
		checkRotas(t, can, observers, most, first, count)
	}
	if sum < 10000 {
		t.Error("hardly tried", sum)
	}
	can := slices.Repeat([]int{255}, 7)
	for most := range 4 {
		first, count := walked(can, 8, most)
		checkRotas(t, can, 8, most, first, count)
	}
}

// P8.5: more nights that an observer can be there make no fewer rotas.
func TestMoreNightsMakeNoFewerRotas(t *testing.T) {
	r := random()
	for range 300 {
		observers, most := 1+r.IntN(8), r.IntN(13)
		can := anyNights(r, 1+r.IntN(12), observers)
		before, e := night.Rotas(can, observers, most)
		if e != api.OK {
			t.Fatal(can, observers, most, e)
		}
		more := slices.Clone(can)
		more[r.IntN(len(more))] |= 1 << r.IntN(observers)
		if after, e := night.Rotas(more, observers, most); after < before || e != api.OK {
			t.Fatal(can, more, observers, most, before, after, e)
		}
		if rota, e := night.Rota(can, observers, most); (e == api.ErrNone) != (before == 0) || e == api.OK && (!isRota(can, most, rota) || !night.IsRota(more, observers, most, rota)) {
			t.Fatal(can, observers, most, rota, e)
		}
		if n, e := night.Rotas(can, observers, min(most+1, 12)); n < before || e != api.OK {
			t.Fatal("a greater limit", can, observers, most, n, e)
		}
	}
}

func TestIsRota(t *testing.T) {
	for _, c := range []struct {
		can             []int
		observers, most int
		rota            []int
		is              bool
	}{
		{nil, 1, 0, nil, true}, {nil, 1, 0, []int{0}, false}, {[]int{1}, 1, 1, nil, false}, {[]int{1}, 1, 1, []int{0}, true}, {[]int{1}, 1, 0, []int{0}, false}, {[]int{3, 3, 3}, 2, 2, []int{0, 1, 0}, true}, {[]int{3, 3, 3}, 2, 2, []int{1, 0, 1}, true}, {[]int{3, 3, 3}, 2, 1, []int{0, 1, 0}, false},
		{[]int{3, 3}, 2, 12, []int{0, 0}, false}, {[]int{3, 2}, 2, 12, []int{1, 0}, false}, {[]int{3, 3}, 2, 12, []int{0}, false}, {[]int{3, 3}, 2, 12, []int{0, 1, 0}, false}, {[]int{3, 3}, 2, 12, []int{0, 2}, false}, {[]int{3, 3}, 2, 12, []int{-1, 1}, false}, {[]int{3, 3}, 2, 12, []int{math.MinInt, math.MaxInt}, false}, {[]int{255, 255}, 8, 12, []int{7, 8}, false}, {[]int{255, 255}, 8, 12, []int{64, 1}, false},
		{slices.Repeat([]int{3}, 12), 2, 6, []int{0, 1, 0, 1, 0, 1, 0, 1, 0, 1, 0, 1}, true}, {slices.Repeat([]int{3}, 12), 2, 5, []int{0, 1, 0, 1, 0, 1, 0, 1, 0, 1, 0, 1}, false}, {[]int{3, 3}, 2, 12, make([]int, 100000), false},
	} {
		if got := night.IsRota(c.can, c.observers, c.most, c.rota); got != c.is {
			t.Error(c.can, c.observers, c.most, len(c.rota), got)
		}
	}
}

func TestRotaErrors(t *testing.T) {
	check := func(can []int, observers, most int, rota []int) {
		t.Helper()
		if l, e := night.Rota(can, observers, most); len(l) != 0 || e != api.ErrRange {
			t.Error("Rota", can, observers, most, l, e)
		}
		if n, e := night.Rotas(can, observers, most); n != 0 || e != api.ErrRange {
			t.Error("Rotas", can, observers, most, n, e)
		}
		if night.IsRota(can, observers, most, rota) {
			t.Error("IsRota", can, observers, most, rota)
		}
	}
	for _, n := range []int{math.MinInt, -1, 13, 14, math.MaxInt} {
		check([]int{1}, 1, n, []int{0})
		check(nil, 1, n, nil)
		check([]int{0}, 1, n, nil)
	}
	for _, n := range []int{math.MinInt, -1, 0, 9, 10, 63, 64, math.MaxInt} {
		check([]int{1}, n, 1, []int{0})
		check(nil, n, 1, nil)
		check([]int{0}, n, 0, nil)
	}
	for _, set := range []int{math.MinInt, -1, 8, 9, 255, 256, math.MaxInt} { // also where there would be a rota, or none
		check([]int{set}, 3, 1, []int{0})
		check([]int{1, 2, set}, 3, 12, []int{0, 1, 0})
		check([]int{0, set}, 3, 0, []int{0, 1})
	}
	check([]int{256}, 8, 1, []int{0})
	long := []int{0, 1, 0, 1, 0, 1, 0, 1, 0, 1, 0, 1, 0}
	check(slices.Repeat([]int{3}, 13), 2, 12, long)
	check(make([]int, 13), 2, 0, long)
	check(make([]int, 100000), 2, 12, nil)
}
