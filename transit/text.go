package transit

import (
	"strconv"
	"strings"

	"noongun/api"
)

// maxListed is how many stars a text may have.
const maxListed = 100

// Format returns the text of a list of stars.
func Format(l []api.Star) string {
	if len(l) > maxListed {
		return ""
	}
	var b strings.Builder
	for _, s := range l {
		if !ValidStar(s) {
			return ""
		}
		b.WriteString(lineOf(s) + "\n")
	}
	return b.String()
}

// Parse reads a text of Format.
func Parse(s string) (l []api.Star, line int, e api.Errno) {
	if len(s) > api.MaxText {
		return nil, 0, api.ErrLong
	}
	for s != "" {
		text, rest, ended := strings.Cut(s, "\n")
		star, right := starOf(text)
		if !ended || !right || len(l) == maxListed {
			return nil, len(l), api.ErrSyntax
		}
		l = append(l, star)
		s = rest
	}
	return l, 0, api.OK
}

func lineOf(s api.Star) string {
	return strings.Join([]string{s.Name, strconv.Itoa(s.Ascension), strconv.Itoa(s.Shift), strconv.Itoa(s.Slow)}, " ")
}

// starOf returns the valid star of a line, or false.
func starOf(line string) (api.Star, bool) {
	words := strings.Split(line, " ")
	if len(words) != 4 {
		return api.Star{}, false
	}
	var numbers [3]int
	for i, word := range words[1:] {
		n, err := strconv.Atoi(word)
		if err != nil {
			return api.Star{}, false
		}
		numbers[i] = n
	}
	s := api.Star{Name: words[0], Ascension: numbers[0], Shift: numbers[1], Slow: numbers[2]}
	// Numbers that Format would write in another way do not come back the same.
	return s, ValidStar(s) && lineOf(s) == line
}
