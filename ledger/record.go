package ledger

import (
	"iter"
	"slices"

	"noongun/api"
)

// slot is a day and a kind, of which one entry counts.
type slot struct {
	day   int
	found bool
}

// record is what counts of entries: the last error of each slot that has one.
type record map[slot]int

func recordOf(l []api.Entry) (record, api.Errno) {
	if !Valid(l) {
		return nil, api.ErrInvalid
	}
	r := record{}
	for _, x := range l {
		r[slotOf(x)] = x.Error
	}
	return r, api.OK
}

func slotOf(x api.Entry) slot {
	return slot{x.Day, x.Found}
}

func (r record) has(s slot) bool {
	_, there := r[s]
	return there
}

// off returns the off of a day, or false.
func (r record) off(day int) (int, bool) {
	said, found := slot{day, false}, slot{day, true}
	if !r.has(said) || !r.has(found) {
		return 0, false
	}
	return r[found] - r[said], true
}

// days returns the days that have anything, in ascending order.
func (r record) days() []int {
	var days []int
	for s := range r {
		days = append(days, s.day)
	}
	slices.Sort(days)
	return slices.Compact(days) // a day has up to two slots
}

// offs are the days that have an off that is as it must be, in ascending order, with their offs.
func (r record) offs(must func(day, off int) bool) iter.Seq2[int, int] {
	return func(yield func(day, off int) bool) {
		for _, day := range r.days() {
			off, there := r.off(day)
			if there && must(day, off) && !yield(day, off) {
				return
			}
		}
	}
}

// all is for days that must have an off and nothing more.
func all(day, off int) bool {
	return true
}

// daysOf returns the days of an iterator of days and offs.
func daysOf(offs iter.Seq2[int, int]) []int {
	var days []int
	for day := range offs {
		days = append(days, day)
	}
	return days
}
