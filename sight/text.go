package sight

import (
	"strconv"
	"strings"

	"noongun/api"
)

// kind is a kind of lines: its first word, and how its numbers become a part of a net.
type kind struct {
	word string
	read func(x *api.Net, numbers []int) bool
}

// kindOf returns what the line of a number must be.
func kindOf(line int) kind {
	if line == 0 {
		return kind{"rates", readRates}
	}
	return kind{"sight", readSight}
}

// Format returns the text of a net.
func Format(x api.Net) string {
	if !Valid(x) {
		return ""
	}
	var b strings.Builder
	b.WriteString(lineOf(kindOf(0), x.Rates...))
	for i, s := range x.Sights {
		b.WriteString(lineOf(kindOf(i+1), s.At, s.A, s.B, s.Lo, s.Hi))
	}
	return b.String()
}

// Parse reads a text of Format.
func Parse(s string) (x api.Net, line int, e api.Errno) {
	if len(s) > api.MaxText {
		return api.Net{}, 0, api.ErrLong
	}
	for line == 0 || s != "" {
		text, rest, whole := strings.Cut(s, "\n")
		if !whole || !reads(kindOf(line), text, &x) {
			return api.Net{}, line, api.ErrSyntax
		}
		s = rest
		line++
	}
	return x, 0, api.OK
}

func lineOf(k kind, numbers ...int) string {
	line := []byte(k.word)
	for _, n := range numbers {
		line = append(line, ' ')
		line = strconv.AppendInt(line, int64(n), 10)
	}
	return string(line) + "\n"
}

// reads adds a line to x, and reports whether x is still valid.
func reads(k kind, line string, x *api.Net) bool {
	words := strings.Split(line, " ")
	var numbers []int
	for _, w := range words[1:] {
		n, err := strconv.Atoi(w)
		if err != nil {
			return false
		}
		numbers = append(numbers, n)
	}
	// Numbers that Format would write in another way, and other first words, do not come back the same.
	return lineOf(k, numbers...) == line+"\n" && k.read(x, numbers) && Valid(*x)
}

func readRates(x *api.Net, numbers []int) bool {
	x.Rates = numbers
	return true
}

func readSight(x *api.Net, numbers []int) bool {
	if len(numbers) != 5 {
		return false
	}
	x.Sights = append(x.Sights, api.Sight{At: numbers[0], A: numbers[1], B: numbers[2], Lo: numbers[3], Hi: numbers[4]})
	return true
}
