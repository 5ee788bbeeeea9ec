package rate

import (
	"cmp"
	"slices"

	"noongun/api"
)

const (
	maxNumber = 1000000000000
	maxPrice  = 1000000
	maxMoney  = 1000000000
)

// Trial returns the trial of a box.
func Trial(b api.Box) (api.Trial, api.Errno) {
	weekly, e := Weekly(b)
	if e != api.OK {
		return api.Trial{}, e
	}
	if len(weekly) < 2 {
		return api.Trial{}, api.ErrNone
	}
	least, greatest := ends(slices.Values(weekly))
	down, up := ends(steps(weekly))
	leap := max(size(down), size(up))
	return api.Trial{Name: b.Name, Least: least, Greatest: greatest, Leap: leap, Number: greatest - least + 2*leap}, api.OK
}

// Ranked returns the trials of boxes, the steadiest box's first.
func Ranked(l []api.Box) ([]api.Trial, api.Errno) {
	if !ValidBoxes(l) {
		return nil, api.ErrInvalid
	}
	trials := make([]api.Trial, len(l))
	for i, b := range l {
		trial, e := Trial(b)
		if e != api.OK {
			return nil, e
		}
		trials[i] = trial
	}
	slices.SortFunc(trials, func(a, b api.Trial) int {
		return cmp.Or(cmp.Compare(a.Number, b.Number), cmp.Compare(a.Name, b.Name))
	})
	return trials, api.OK
}

// Passed returns the names of the boxes whose Number is not above a limit, the steadiest one's first.
func Passed(l []api.Box, most int) ([]string, api.Errno) {
	if !ValidBoxes(l) {
		return nil, api.ErrInvalid
	}
	if most < 0 {
		return nil, api.ErrRange
	}
	trials, e := Ranked(l)
	if e != api.OK {
		return nil, e
	}
	var names []string
	for _, t := range trials {
		if t.Number <= most {
			names = append(names, t.Name)
		}
	}
	return names, api.OK
}

// Bought returns which trials a ship buys that wants as many as its money pays, and then the steadiest.
func Bought(l []api.Trial, prices []int, money int) ([]int, api.Errno) {
	if !areTrials(l) || len(prices) != len(l) || !arePrices(prices) || money < 0 || money > maxMoney {
		return nil, api.ErrRange
	}
	var set, best []int
	least := 0
	var try func(i, left, sum int)
	try = func(i, left, sum int) {
		if i == len(l) {
			if len(set) > len(best) || len(set) == len(best) && sum < least {
				best, least = slices.Clone(set), sum
			}
			return
		}
		// With the trial before without it: of lists of one length, the first one is then met first.
		if prices[i] <= left {
			set = append(set, i)
			try(i+1, left-prices[i], sum+l[i].Number)
			set = set[:len(set)-1]
		}
		try(i+1, left, sum)
	}
	try(0, money, 0)
	return best, api.OK
}

// Odd returns which one of three boxes has gone wrong.
func Odd(l []api.Box) (int, api.Errno) {
	if !ValidBoxes(l) {
		return 0, api.ErrInvalid
	}
	if len(l) != 3 || len(l[0].Errors) != len(l[1].Errors) || len(l[0].Errors) != len(l[2].Errors) {
		return 0, api.ErrRange
	}
	var plays [3]int // of the pair without the box of that index
	for i := range plays {
		plays[i] = play(l[(i+1)%3], l[(i+2)%3])
	}
	for i, n := range plays {
		if n < plays[(i+1)%3] && n < plays[(i+2)%3] {
			return i, api.OK
		}
	}
	return 0, api.ErrNone
}

// play returns by how much two boxes with as many days move against each other.
func play(a, b api.Box) int {
	least, greatest := ends(differences(a.Errors, b.Errors))
	return greatest - least
}

func areTrials(l []api.Trial) bool {
	if len(l) < 1 || len(l) > api.MaxBoxes {
		return false
	}
	return !slices.ContainsFunc(l, func(t api.Trial) bool { return t.Number < 0 || t.Number > maxNumber })
}

func arePrices(l []int) bool {
	return !slices.ContainsFunc(l, func(n int) bool { return n < 0 || n > maxPrice })
}
