package night

import (
	"iter"
	"slices"

	"noongun/api"
)

const maxNights = 12

// Rota returns the first rota.
func Rota(can []int, observers, most int) ([]int, api.Errno) {
	if !areNights(can, observers, most) {
		return nil, api.ErrRange
	}
	r := rotas{can, map[beginning]int{}}
	b := r.start(most)
	if r.count(b) == 0 {
		return nil, api.ErrNone
	}
	rota := make([]int, 0, len(can))
	for b.nights < len(can) {
		for o, longer := range r.next(b) {
			if r.count(longer) > 0 {
				rota = append(rota, o)
				b = longer
				break
			}
		}
	}
	return rota, api.OK
}

// IsRota reports whether a list is a rota.
func IsRota(can []int, observers, most int, rota []int) bool {
	if !areNights(can, observers, most) || len(rota) != len(can) {
		return false
	}
	var nights [maxObservers]int
	for n, o := range rota {
		if !isObserver(observers, o) || !has(can[n], o) || n > 0 && rota[n-1] == o {
			return false
		}
		nights[o]++
	}
	return slices.Max(nights[:]) <= most
}

// Rotas returns how many rotas there are.
func Rotas(can []int, observers, most int) (int, api.Errno) {
	if !areNights(can, observers, most) {
		return 0, api.ErrRange
	}
	r := rotas{can, map[beginning]int{}}
	return r.count(r.start(most)), api.OK
}

// rotas are the rotas for nights with sets of observers, and how many have a beginning, for those that were asked for.
type rotas struct {
	can    []int
	counts map[beginning]int
}

// beginning is what the beginning of a rota leaves to the nights behind it.
type beginning struct {
	nights, last int                 // how many there are, and the last one's observer
	left         [maxObservers]uint8 // on how many more each observer may be
}

// start returns the beginning without a night.
func (r rotas) start(most int) beginning {
	b := beginning{last: none}
	for o := range b.left {
		b.left[o] = uint8(most)
	}
	return r.capped(b)
}

// capped returns a beginning that leaves nobody more nights than he could be on: nobody is on two that follow each other. Where only such nights tell beginnings apart, they are one, and there are far fewer to count.
func (r rotas) capped(b beginning) beginning {
	free := len(r.can) - b.nights
	for o := range b.left {
		b.left[o] = min(b.left[o], uint8((free+1)/2))
	}
	return b
}

// count returns how many rotas have a beginning.
func (r rotas) count(b beginning) int {
	if b.nights == len(r.can) {
		return 1
	}
	if n, known := r.counts[b]; known {
		return n
	}
	sum := 0
	for _, longer := range r.next(b) {
		sum += r.count(longer)
	}
	r.counts[b] = sum
	return sum
}

// next are the observers of the next night, in ascending order, with the beginnings that have them.
func (r rotas) next(b beginning) iter.Seq2[int, beginning] {
	return func(yield func(int, beginning) bool) {
		for o, left := range b.left {
			if left == 0 || o == b.last || !has(r.can[b.nights], o) {
				continue
			}
			longer := beginning{b.nights + 1, o, b.left}
			longer.left[o]--
			if !yield(o, r.capped(longer)) {
				return
			}
		}
	}
}

func areNights(can []int, observers, most int) bool {
	if len(can) > maxNights || !areObservers(observers) || most < 0 || most > maxNights {
		return false
	}
	return !slices.ContainsFunc(can, func(set int) bool { return set < 0 || set >= 1<<observers })
}

func has(set, o int) bool {
	return set>>o&1 == 1
}
