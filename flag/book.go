package flag

import (
	"slices"

	"noongun/api"
)

const maxText = 60

// ValidBook reports whether b has meanings, not too many, as they must be and in ascending order.
func ValidBook(b []api.Meaning) bool {
	for i := range b {
		if !follows(b[:i], b[i]) {
			return false
		}
	}
	return true
}

// Look returns the text of the Number that a hoist means.
func Look(b []api.Meaning, h []int) (string, api.Errno) {
	if !ValidBook(b) {
		return "", api.ErrInvalid
	}
	digits, e := Means(h)
	if e != api.OK {
		return "", e
	}
	number := numberOf(digits)
	text, there := texts(b)[number]
	// Digits with zeros before them are no Number's.
	if !there || !slices.Equal(digits, digitsOf(number)) {
		return "", api.ErrNone
	}
	return text, api.OK
}

// Find returns the least Number with a text.
func Find(b []api.Meaning, text string) (int, api.Errno) {
	if !ValidBook(b) {
		return 0, api.ErrInvalid
	}
	for _, m := range b {
		if m.Text == text {
			return m.Number, api.OK
		}
	}
	return 0, api.ErrNone
}

// Close returns the pairs of Numbers that are less than a distance apart.
func Close(b []api.Meaning, d int) ([][2]int, api.Errno) {
	if !ValidBook(b) {
		return nil, api.ErrInvalid
	}
	if d < 1 || d > farthest {
		return nil, api.ErrRange
	}
	return pairs(b, func(x, y int) bool { return distance(x, y) < d }), api.OK
}

// Traps returns the pairs of Numbers that are each other's, turned.
func Traps(b []api.Meaning) ([][2]int, api.Errno) {
	if !ValidBook(b) {
		return nil, api.ErrInvalid
	}
	// A Number's own digits never begin with 0 but for the single 0, so turned ones that do are no Number's.
	return pairs(b, func(x, y int) bool { return slices.Equal(turned(digitsOf(x)), digitsOf(y)) }), api.OK
}

// Lost returns the Numbers that can't be hoisted with flags of a set.
func Lost(b []api.Meaning, flags int) ([]int, api.Errno) {
	if !ValidBook(b) {
		return nil, api.ErrInvalid
	}
	if !isSet(flags) {
		return nil, api.ErrRange
	}
	var lost []int
	for _, m := range b {
		if !isPossible(digitsOf(m.Number), flags) {
			lost = append(lost, m.Number)
		}
	}
	return lost, api.OK
}

// follows reports whether a meaning may stand behind those of a book.
func follows(b []api.Meaning, m api.Meaning) bool {
	if len(b) >= api.MaxBook || !isNumber(m.Number) || !isText(m.Text) {
		return false
	}
	return len(b) == 0 || b[len(b)-1].Number < m.Number
}

// texts are those of a book, by their Numbers.
func texts(b []api.Meaning) map[int]string {
	l := make(map[int]string, len(b))
	for _, m := range b {
		l[m.Number] = m.Text
	}
	return l
}

// pairs returns the pairs of a book's Numbers, the less one first, of which what is asked is true.
func pairs(b []api.Meaning, asked func(x, y int) bool) [][2]int {
	var l [][2]int
	for i, m := range b {
		for _, n := range b[i+1:] {
			if asked(m.Number, n.Number) {
				l = append(l, [2]int{m.Number, n.Number})
			}
		}
	}
	return l
}

func isText(s string) bool {
	if s == "" || len(s) > maxText {
		return false
	}
	for i := range len(s) {
		if s[i] < ' ' || s[i] > '~' {
			return false
		}
	}
	return true
}
