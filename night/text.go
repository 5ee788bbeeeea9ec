package night

import (
	"strconv"
	"strings"

	"noongun/api"
)

// Format returns the text of chances.
func Format(l []api.Chance) string {
	if !Valid(l) {
		return ""
	}
	var text strings.Builder
	for _, c := range l {
		text.WriteString(lineOf(c) + "\n")
	}
	return text.String()
}

// Parse reads a text of Format.
func Parse(s string) (l []api.Chance, line int, e api.Errno) {
	if len(s) > api.MaxText {
		return nil, 0, api.ErrLong
	}
	for s != "" {
		text, rest, ended := strings.Cut(s, "\n")
		c, right := chanceOf(text)
		if !ended || !right || !mayStand(l, c) {
			return nil, len(l), api.ErrSyntax
		}
		l = append(l, c)
		s = rest
	}
	return l, 0, api.OK
}

func lineOf(c api.Chance) string {
	words := []string{c.Name}
	for _, n := range []int{c.From, c.To, c.Tilt, c.Worth} {
		words = append(words, strconv.Itoa(n))
	}
	return strings.Join(words, " ")
}

// chanceOf returns the chance of a line, which need not be valid, or false.
func chanceOf(line string) (api.Chance, bool) {
	words := strings.Split(line, " ")
	if len(words) != 5 {
		return api.Chance{}, false
	}
	var numbers [4]int
	for i, word := range words[1:] {
		n, err := strconv.Atoi(word)
		if err != nil {
			return api.Chance{}, false
		}
		numbers[i] = n
	}
	c := api.Chance{Name: words[0], From: numbers[0], To: numbers[1], Tilt: numbers[2], Worth: numbers[3]}
	// Numbers that Format would write in another way do not come back the same.
	return c, lineOf(c) == line
}
