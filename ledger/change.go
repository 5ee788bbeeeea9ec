package ledger

import (
	"slices"

	"noongun/api"
)

// Added returns entries with one more at the end.
func Added(l []api.Entry, x api.Entry) ([]api.Entry, api.Errno) {
	return Merged(l, []api.Entry{x})
}

// Merged returns the entries of a, and then those of b.
func Merged(a, b []api.Entry) ([]api.Entry, api.Errno) {
	if !Valid(a) || !Valid(b) {
		return nil, api.ErrInvalid
	}
	if len(a)+len(b) > api.MaxEntries {
		return nil, api.ErrLimit
	}
	return slices.Concat(a, b), api.OK
}

// Last returns the entries that count, in the order of their days, what was said first.
func Last(l []api.Entry) ([]api.Entry, api.Errno) {
	r, e := recordOf(l)
	if e != api.OK {
		return nil, e
	}
	var entries []api.Entry
	for _, day := range r.days() {
		for _, s := range [2]slot{{day, false}, {day, true}} {
			if r.has(s) {
				entries = append(entries, api.Entry{Day: s.day, Found: s.found, Error: r[s]})
			}
		}
	}
	return entries, api.OK
}

// Shifted returns entries with a number added to each day.
func Shifted(l []api.Entry, by int) ([]api.Entry, api.Errno) {
	if !Valid(l) {
		return nil, api.ErrInvalid
	}
	if by < -lastDay || by > lastDay {
		return nil, api.ErrRange
	}
	entries := make([]api.Entry, len(l))
	for i, x := range l {
		x.Day += by
		if !isDay(x.Day) {
			return nil, api.ErrLimit
		}
		entries[i] = x
	}
	return entries, api.OK
}
