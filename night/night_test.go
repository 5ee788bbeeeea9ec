package night_test

import (
	"fmt"
	"math"
	"slices"
	"strings"
	"testing"

	"noongun/api"
	"noongun/night"
)

func TestValid(t *testing.T) {
	of := func(name string, from int) api.Chance { return api.Chance{Name: name, From: from, To: from + 10} }
	for _, l := range [][]api.Chance{
		nil, {}, example(), twenty(), twenty()[:19], {{Name: "a", From: 0, To: 1}}, {{Name: "a", From: 0, To: api.Day}}, {{Name: "a", From: api.Day - 1, To: api.Day}},
		{{Name: "a", To: 1, Tilt: -90000}}, {{Name: "a", To: 1, Tilt: 90000}}, {{Name: "a", To: 1, Worth: 1000000}}, {{Name: "z_9", To: 1}}, {{Name: strings.Repeat("a", 16), To: 1}}, {{Name: "a_", To: 1}}, {{Name: "a0", To: 1}},
		{of("a", 5), of("b", 5)}, {of("a", 5), of("ab", 5)}, {of("b", 5), of("a", 6)}, {of("a9", 5), of("a_", 5), of("aa", 5)}, {of("a", 5), of("b", 6), of("c", 6), of("a1", 7)},
		{{Name: "long", From: 5, To: 1000}, {Name: "short", From: 6, To: 7}},
	} {
		if !night.Valid(l) {
			t.Error(l)
		}
	}
	for _, l := range badLists() {
		if night.Valid(l) {
			t.Error(len(l), l[:1])
		}
	}
	r := random()
	for range 300 {
		l := anyChances(r, r.IntN(21))
		if !night.Valid(l) {
			t.Fatal(l)
		}
		if len(l) > 1 {
			l[0], l[1] = l[1], l[0]
			if night.Valid(l) {
				t.Fatal("not in order", l)
			}
		}
	}
}

func TestClear(t *testing.T) {
	one := []api.Chance{{Name: "a", From: 10, To: 20}}
	for _, c := range []struct {
		cloud api.Span
		clear bool
	}{
		{api.Span{Lo: 0, Hi: 9}, true}, {api.Span{Lo: 0, Hi: 10}, false}, {api.Span{Lo: 10, Hi: 10}, false}, {api.Span{Lo: 12, Hi: 15}, false}, {api.Span{Lo: 19, Hi: 19}, false}, {api.Span{Lo: 19, Hi: 30}, false},
		{api.Span{Lo: 20, Hi: 20}, true}, {api.Span{Lo: 20, Hi: api.Day}, true}, {api.Span{Lo: 0, Hi: api.Day}, false}, {api.Span{Lo: 9, Hi: 20}, false}, {api.Span{Lo: 9, Hi: 9}, true}, {api.Span{Lo: api.Day, Hi: api.Day}, true},
	} {
		list, e := night.Clear(one, []api.Span{c.cloud})
		if clear := len(list) == 1 && list[0] == 0; clear != c.clear || !clear && len(list) != 0 || e != api.OK {
			t.Error(c, list, e)
		}
	}
	r := random()
	found := 0
	for range 1000 {
		l, clouds := anyChances(r, r.IntN(21)), anyClouds(r, r.IntN(6))
		var want []int
		for i, c := range l {
			if isClear(c, clouds) {
				want = append(want, i)
			}
		}
		found += len(want)
		if list, e := night.Clear(l, clouds); !slices.Equal(list, want) || e != api.OK {
			t.Fatal(l, clouds, list, e)
		}
	}
	if found < 1000 {
		t.Error("hardly tried", found)
	}
	if list, e := night.Clear(twenty(), make([]api.Span, 50)); len(list) != 19 || list[0] != 1 || e != api.OK {
		t.Error("fifty clouds", list, e)
	}
}

func TestTurnAndFollows(t *testing.T) {
	of := func(from, to, tilt int) api.Chance { return api.Chance{Name: "a", From: from, To: to, Tilt: tilt} }
	for _, c := range []struct {
		a, b      api.Chance
		per, turn int
		follows   bool
	}{
		{of(0, 10, 5), of(10, 20, 5), 10000, 0, true}, {of(0, 10, 5), of(9, 20, 5), 0, 0, false}, {of(0, 10, 0), of(13, 20, 3), 1, 3, true}, {of(0, 10, 0), of(12, 20, 3), 1, 3, false},
		{of(0, 10, 3), of(13, 20, 0), 1, 3, true}, {of(0, 10, 3), of(12, 20, 0), 1, 3, false}, {of(0, 10, -2), of(22, 30, 2), 3, 12, true}, {of(0, 10, -2), of(21, 30, 2), 3, 12, false}, {of(0, 10, -5), of(10, 20, 5), 0, 0, true},
		{of(10, 20, 0), of(0, 10, 0), 0, 0, false}, {of(10, 20, 0), of(10, 20, 0), 0, 0, false}, {of(0, 1, -90000), of(api.Day-1, api.Day, 90000), 10000, 1800000000, false},
		{of(0, 1, 90000), of(api.Day-1, api.Day, -90000), 479, 86220000, true}, {of(0, 1, 90000), of(api.Day-1, api.Day, -90000), 480, 86400000, false},
		{of(0, 90, 0), of(160, 200, 30000), 1, 30000, false}, {of(0, api.Day-1, 0), of(api.Day-1, api.Day, 0), 1, 0, true},
	} {
		if got, e := night.Turn(c.a, c.b, c.per); got != c.turn || e != api.OK {
			t.Error("Turn", c, got, e)
		}
		if back, e := night.Turn(c.b, c.a, c.per); back != c.turn || e != api.OK {
			t.Error("Turn back", c, back, e)
		}
		if got, e := night.Follows(c.a, c.b, c.per); got != c.follows || e != api.OK {
			t.Error("Follows", c, got, e)
		}
	}
	checkTurnErrors(t)
}

func checkTurnErrors(t *testing.T) {
	t.Helper()
	good := api.Chance{Name: "a", From: 0, To: 10}
	check := func(a, b api.Chance, per int, want api.Errno) {
		t.Helper()
		if n, e := night.Turn(a, b, per); n != 0 || e != want {
			t.Error("Turn", a.From, a.To, b.From, b.To, per, n, e)
		}
		if f, e := night.Follows(a, b, per); f || e != want {
			t.Error("Follows", a.From, a.To, b.From, b.To, per, f, e)
		}
	}
	for _, bad := range badChances() {
		for _, per := range append(badPers(), 0, 1, 10000) {
			check(good, bad, per, api.ErrInvalid)
			check(bad, good, per, api.ErrInvalid)
			check(bad, bad, per, api.ErrInvalid)
		}
	}
	for _, per := range badPers() {
		check(good, good, per, api.ErrRange)
		check(good, api.Chance{Name: "b", From: 20, To: 30, Tilt: 90000}, per, api.ErrRange)
	}
}

func TestRight(t *testing.T) {
	for _, c := range []struct {
		per   int
		list  []int
		right bool
	}{
		{0, nil, true}, {0, []int{0}, true}, {0, []int{2}, true}, {0, []int{0, 2}, true}, {0, []int{1, 2}, true}, {0, []int{0, 1}, false}, {0, []int{0, 1, 2}, false}, {1, []int{0, 2}, false}, {1, []int{1, 2}, false}, {1, []int{1}, true},
		{0, []int{2, 0}, false}, {0, []int{2, 1}, false}, {0, []int{0, 0}, false}, {0, []int{0, 2, 2}, false}, {0, []int{3}, false}, {0, []int{-1}, false}, {0, []int{0, 3}, false}, {0, []int{math.MinInt}, false}, {0, []int{math.MaxInt}, false}, {0, make([]int, 100000), false},
	} {
		if got := night.Right(example(), nil, c.per, c.list); got != c.right {
			t.Error(c.per, len(c.list), got)
		}
	}
	r := random()
	tried := map[bool]int{}
	for range 100 {
		l, clouds, per := anyChances(r, r.IntN(8)), anyClouds(r, r.IntN(4)), r.IntN(4)
		for _, list := range append(subsets(len(l)), slices.Concat(lists(1, -1, len(l)), lists(2, -1, len(l)), lists(3, -1, len(l)))...) {
			want := isRight(l, clouds, per, list)
			tried[want]++
			if night.Right(l, clouds, per, list) != want {
				t.Fatal(l, clouds, per, list)
			}
		}
	}
	if tried[true] < 1000 || tried[false] < 1000 {
		t.Error("hardly tried", tried)
	}
	for _, list := range [][]int{nil, {0}, {1}} {
		for _, l := range badLists() {
			if night.Right(l, nil, 0, list) {
				t.Error("not valid", l[0], list)
			}
		}
		for _, clouds := range badClouds() {
			if night.Right(example(), clouds, 0, list) {
				t.Error("clouds", clouds[0], list)
			}
		}
		for _, per := range badPers() {
			if night.Right(example(), nil, per, list) {
				t.Error("per", per, list)
			}
		}
	}
}

func TestWorth(t *testing.T) {
	dear := twenty()
	var all []int
	for i := range dear {
		dear[i].Worth = 1000000
		all = append(all, i)
	}
	for _, c := range []struct {
		l    []api.Chance
		list []int
		want int
		e    api.Errno
	}{
		{example(), nil, 0, api.OK}, {nil, nil, 0, api.OK}, {example(), []int{0}, 5, api.OK}, {example(), []int{0, 1, 2}, 20, api.OK}, {example(), []int{0, 1}, 14, api.OK}, {example(), []int{0, 2}, 11, api.OK}, {dear, all, 20000000, api.OK},
		{nil, []int{0}, 0, api.ErrName}, {example(), []int{3}, 0, api.ErrName}, {example(), []int{-1}, 0, api.ErrName}, {example(), []int{0, 1, 3}, 0, api.ErrName}, {example(), []int{math.MaxInt}, 0, api.ErrName}, {example(), []int{math.MinInt}, 0, api.ErrName},
		{example(), []int{1, 0}, 0, api.ErrState}, {example(), []int{0, 0}, 0, api.ErrState}, {example(), []int{0, 2, 1}, 0, api.ErrState}, {example(), make([]int, 100000), 0, api.ErrState},
		{example(), []int{1, 0, 3}, 0, api.ErrName}, {example(), []int{0, 0, -1}, 0, api.ErrName}, {badLists()[0], []int{9}, 0, api.ErrInvalid}, {badLists()[0], []int{0, 0}, 0, api.ErrInvalid},
	} {
		if got, e := night.Worth(c.l, c.list); got != c.want || e != c.e {
			t.Error(len(c.l), len(c.list), got, e)
		}
	}
	for _, l := range badLists() {
		for _, list := range [][]int{nil, {0}, {1, 0}, {-1}} {
			if got, e := night.Worth(l, list); got != 0 || e != api.ErrInvalid {
				t.Error(l[0], list, got, e)
			}
		}
	}
	r := random()
	for range 50 {
		l := anyChances(r, r.IntN(10))
		for _, list := range subsets(len(l)) {
			if got, e := night.Worth(l, list); got != worthOf(l, list) || e != api.OK {
				t.Fatal(l, list, got, e)
			}
		}
	}
}

func TestClashes(t *testing.T) {
	for _, c := range []struct {
		per  int
		want [][2]int
	}{{0, [][2]int{{0, 1}}}, {1, [][2]int{{0, 1}, {0, 2}, {1, 2}}}} {
		if got, e := night.Clashes(example(), c.per); !slices.Equal(got, c.want) || e != api.OK {
			t.Error(c, got, e)
		}
	}
	for _, l := range [][]api.Chance{nil, example()[:1], twenty()} {
		if got, e := night.Clashes(l, 0); len(got) != 0 || e != api.OK {
			t.Error(l, got, e)
		}
	}
	if got, e := night.Clashes(twenty(), 10000); len(got) != 190-5*(3+2+1) || e != api.OK {
		t.Error("those with the same Tilt", len(got), e)
	}
	r := random()
	for range 500 {
		l, per := anyChances(r, r.IntN(21)), r.IntN(5)
		var want [][2]int
		for _, pair := range lists(2, 0, len(l)-1) {
			if i, j := pair[0], pair[1]; i < j && !follows(l[i], l[j], per) {
				want = append(want, [2]int{i, j})
			}
		}
		if got, e := night.Clashes(l, per); !slices.Equal(got, want) || e != api.OK {
			t.Fatal(l, per, got, e)
		}
	}
}

// idle counts the times one by one.
func idle(l []api.Chance, per int, list []int) int {
	busy := map[int]bool{}
	for k, i := range list {
		for at := l[i].From; at < l[i].To; at++ {
			busy[at] = true
		}
		if k+1 < len(list) {
			for at := range turn(l[i], l[list[k+1]], per) {
				busy[l[i].To+at] = true
			}
		}
	}
	n := 0
	for at := l[list[0]].From; at < l[list[len(list)-1]].To; at++ {
		if !busy[at] {
			n++
		}
	}
	return n
}

func TestIdle(t *testing.T) {
	for _, c := range []struct {
		l    []api.Chance
		per  int
		list []int
		want int
		e    api.Errno
	}{
		{example(), 0, nil, 0, api.OK}, {nil, 0, nil, 0, api.OK}, {example(), 10000, nil, 0, api.OK}, {example(), 0, []int{1}, 0, api.OK}, {example(), 0, []int{0, 2}, 60, api.OK}, {example(), 0, []int{1, 2}, 10, api.OK}, {twenty(), 0, []int{0, 19}, 18100, api.OK}, {twenty(), 1, []int{0, 3}, 1800, api.OK},
		{twenty(), 1, []int{3, 4, 7}, 1900, api.OK}, {twenty(), 1, []int{4, 5, 8}, 0, api.ErrState}, {example(), 1, []int{0, 2}, 0, api.ErrState}, {example(), 0, []int{0, 1}, 0, api.ErrState}, {example(), 0, []int{2, 0}, 0, api.ErrState}, {example(), 0, []int{0, 0}, 0, api.ErrState},
		{example(), 0, []int{3}, 0, api.ErrName}, {example(), 0, []int{0, 1, 3}, 0, api.ErrName}, {example(), 0, []int{2, 0, -1}, 0, api.ErrName}, {nil, 0, []int{0}, 0, api.ErrName}, {example(), -1, []int{3}, 0, api.ErrRange}, {example(), 10001, []int{0, 1}, 0, api.ErrRange}, {example(), 10001, nil, 0, api.ErrRange},
	} {
		if got, e := night.Idle(c.l, c.per, c.list); got != c.want || e != c.e {
			t.Error(c, got, e)
		}
	}
	r := random()
	tried := map[api.Errno]int{}
	for range 200 {
		l, per := anyChances(r, 1+r.IntN(8)), r.IntN(4)
		for _, list := range subsets(len(l))[1:] {
			want, wantError := 0, api.ErrState
			if isRight(l, nil, per, list) {
				want, wantError = idle(l, per, list), api.OK
			}
			tried[wantError]++
			if got, e := night.Idle(l, per, list); got != want || e != wantError {
				t.Fatal(l, per, list, got, e)
			}
		}
	}
	if tried[api.OK] < 1000 || tried[api.ErrState] < 1000 {
		t.Error("hardly tried", tried)
	}
}

func TestErrorsOfChances(t *testing.T) {
	check := func(l []api.Chance, clouds []api.Span, per, i int, want api.Errno) {
		t.Helper()
		where := fmt.Sprint(len(l), len(clouds), per, i)
		if list, e := night.Best(l, clouds, per); len(list) != 0 || e != want {
			t.Error("Best", where, list, e)
		}
		if night.IsBest(l, clouds, per, nil) {
			t.Error("IsBest", where)
		}
		if n, e := night.Most(l, clouds, per); n != 0 || e != want {
			t.Error("Most", where, n, e)
		}
		if list, e := night.With(l, clouds, per, i); len(list) != 0 || e != want {
			t.Error("With", where, list, e)
		}
	}
	for _, per := range append(badPers(), 0, 10000) { // ErrInvalid before ErrRange and ErrName
		for _, l := range badLists() {
			check(l, nil, per, 0, api.ErrInvalid)
			check(l, nil, per, -1, api.ErrInvalid)
			if pairs, e := night.Clashes(l, per); len(pairs) != 0 || e != api.ErrInvalid {
				t.Error("Clashes", l[0], per, pairs, e)
			}
			if n, e := night.Idle(l, per, []int{9, 9}); n != 0 || e != api.ErrInvalid {
				t.Error("Idle", l[0], per, n, e)
			}
		}
		for _, clouds := range badClouds() {
			check(example(), clouds, per, 1, api.ErrInvalid)
			check(nil, clouds, per, 7, api.ErrInvalid)
		}
	}
	for _, per := range badPers() { // before ErrName and ErrNone
		for _, i := range []int{0, 2, 3, -1} {
			check(example(), nil, per, i, api.ErrRange)
			check(example(), []api.Span{{Lo: 0, Hi: api.Day}}, per, i, api.ErrRange)
		}
		if pairs, e := night.Clashes(example(), per); len(pairs) != 0 || e != api.ErrRange {
			t.Error("Clashes", per, pairs, e)
		}
	}
	for _, l := range badLists() {
		if list, e := night.Clear(l, nil); len(list) != 0 || e != api.ErrInvalid {
			t.Error("Clear", l[0], list, e)
		}
	}
	for _, clouds := range badClouds() {
		if list, e := night.Clear(example(), clouds); len(list) != 0 || e != api.ErrInvalid {
			t.Error("Clear", clouds[0], list, e)
		}
	}
}
