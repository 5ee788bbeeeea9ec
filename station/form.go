package station

import (
	"strconv"
	"strings"

	"noongun/api"
)

const (
	maxLine  = 200 // bytes
	maxWidth = 12  // digits of a number
)

// form is what lines with one first word do, and the kinds of the words behind it.
type form struct {
	does  func(x *Station, numbers []int) string
	kinds []kind
}

// forms are those of all lines, by their first words.
func forms() map[string]form {
	n, s := number{}, signed{}
	return map[string]form{
		"sight":  {(*Station).addSight, []kind{n, n, n, s, s}},
		"event":  {(*Station).addEvent, []kind{n, n, n}},
		"close":  {(*Station).closeDay, nil},
		"say":    {(*Station).say, []kind{s}},
		"found":  {(*Station).find, []kind{n, s}},
		"error":  {(*Station).tellError, []kind{n, n}},
		"best":   {(*Station).tellBest, []kind{n}},
		"off":    {(*Station).tellOff, []kind{n}},
		"torn":   {(*Station).tear, []kind{n}},
		"mended": {(*Station).mend, []kind{n}},
		"hoist":  {(*Station).hoist, []kind{digits{}}},
		"drop":   {(*Station).dropSight, []kind{n}},
	}
}

// kind is a kind of words.
type kind interface {
	// read returns the numbers that a word tells, or false if it is not of this kind.
	read(word string) ([]int, bool)
}

type (
	number struct{}
	signed struct{}
	digits struct{}
)

func (number) read(word string) ([]int, bool) {
	if len(word) > maxWidth {
		return nil, false
	}
	n, err := strconv.Atoi(word)
	return []int{n}, err == nil && n >= 0 && strconv.Itoa(n) == word
}

func (signed) read(word string) ([]int, bool) {
	unsigned, below := strings.CutPrefix(word, "-")
	l, right := number{}.read(unsigned)
	if !right || !below {
		return l, right
	}
	return []int{-l[0]}, l[0] > 0
}

func (digits) read(word string) ([]int, bool) {
	if len(word) < 1 || len(word) > api.MaxHoist {
		return nil, false
	}
	var l []int
	for i := range len(word) {
		if word[i] < '0' || word[i] > '9' {
			return nil, false
		}
		l = append(l, int(word[i]-'0'))
	}
	return l, true
}

// read returns what a line does, and the numbers that its words tell.
func read(line string) (does func(*Station, []int) string, numbers []int) {
	must(isLine(line), api.ErrCommand)
	words := strings.Split(line, " ")
	f, known := forms()[words[0]]
	must(known && len(words) == 1+len(f.kinds), api.ErrCommand)
	for i, k := range f.kinds {
		l, right := k.read(words[1+i])
		must(right, api.ErrCommand)
		numbers = append(numbers, l...)
	}
	return f.does, numbers
}

// isLine reports whether a text has as many bytes as a line, all of them a line's, and no blank at its ends.
func isLine(text string) bool {
	if len(text) < 1 || len(text) > maxLine || text[0] == ' ' || text[len(text)-1] == ' ' {
		return false
	}
	for i := range len(text) {
		if text[i] < 32 || text[i] > 126 {
			return false
		}
	}
	return true
}
