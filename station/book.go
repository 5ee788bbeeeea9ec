package station

import (
	"strconv"
	"strings"

	"noongun/api"
	"noongun/ball"
)

const maxBytes = 600000 // of a book

// What the hash of layer 9 begins with, and what it multiplies by.
const (
	hashBegin  = 14695981039346656037
	hashFactor = 1099511628211
)

// Book returns the book.
func (x *Station) Book() string {
	var l []api.Line
	var book strings.Builder
	for _, text := range x.kept().texts {
		line := following(l, text)
		l = append(l, line)
		book.WriteString(written(line))
	}
	return book.String()
}

// Lines returns the lines of a book, and whether something stands behind the last one.
func Lines(book string) (l []api.Line, torn bool, e api.Errno) {
	if len(book) > maxBytes {
		return nil, false, api.ErrLong
	}
	for {
		whole, rest, ended := strings.Cut(book, "\n")
		if !ended {
			return l, whole != "", api.OK
		}
		line := following(l, textOf(whole))
		if !isLine(line.Text) || written(line) != whole+"\n" {
			return l, false, api.ErrSum
		}
		if len(l) == api.MaxLines {
			return nil, false, api.ErrLimit
		}
		l = append(l, line)
		book = rest
	}
}

// Parting returns how many first lines of two books are the same.
func Parting(a, b string) (same int, e api.Errno) {
	l, _, e := Lines(a)
	if e != api.OK {
		return 0, e
	}
	m, _, e := Lines(b)
	if e != api.OK {
		return 0, e
	}
	for same < min(len(l), len(m)) && l[same] == m[same] {
		same++
	}
	return same, api.OK
}

// Replay returns the station that the lines of a book make, with the number of lines done.
func Replay(m api.Mast, rates []int, book string) (*Station, int, api.Errno) {
	x, replies, e := replayed(m, rates, book)
	return x, len(replies), e
}

// Replies returns the replies to the lines of a book.
func Replies(m api.Mast, rates []int, book string) ([]string, api.Errno) {
	_, replies, e := replayed(m, rates, book)
	if e != api.OK {
		return nil, e
	}
	return replies, api.OK
}

// Faults returns the days whose verdict is a fault by a book.
func Faults(m api.Mast, rates []int, book string) ([]int, api.Errno) {
	x, _, e := replayed(m, rates, book)
	if e != api.OK {
		return nil, e
	}
	var days []int
	for day, verdict := range x.verdicts {
		if ball.Fault(verdict) {
			days = append(days, day)
		}
	}
	return days, api.OK
}

// replayed does the lines of a book up to the first one that is refused, and returns the replies also if there is one.
func replayed(m api.Mast, rates []int, book string) (*Station, []string, api.Errno) {
	x, e := New(m, rates)
	if e != api.OK {
		return nil, nil, e
	}
	lines, _, e := Lines(book)
	if e != api.OK {
		return nil, nil, e
	}
	var replies []string
	for _, line := range lines {
		reply, e := x.Do(line.Text)
		if e != api.OK {
			return nil, replies, api.ErrSum
		}
		replies = append(replies, reply)
	}
	return x, replies, api.OK
}

// following returns the line with a text that follows others.
func following(l []api.Line, text string) api.Line {
	before := uint64(0)
	if len(l) > 0 {
		before = l[len(l)-1].Sum
	}
	return api.Line{Number: len(l), Text: text, Sum: hash(hex(before) + " " + text)}
}

// written returns a line as it stands in a book.
func written(l api.Line) string {
	return strconv.Itoa(l.Number) + " " + hex(l.Sum) + " " + l.Text + "\n"
}

// textOf returns what stands behind the second blank of a line of a book, or nothing.
func textOf(line string) string {
	_, behindNumber, _ := strings.Cut(line, " ")
	_, text, _ := strings.Cut(behindNumber, " ")
	return text
}

// hash is that of layer 9, which offers it for entries alone.
func hash(text string) uint64 {
	h := uint64(hashBegin)
	for i := range len(text) {
		h = (h ^ uint64(text[i])) * hashFactor
	}
	return h
}

// hex returns a sum in 16 digits.
func hex(sum uint64) string {
	short := strconv.FormatUint(sum, 16)
	return strings.Repeat("0", 16-len(short)) + short
}
