package tick

import (
	"strconv"
	"strings"

	"firn/api"
)

// Format returns the text of a clock.
func Format(c []api.Mark) (string, api.Errno) {
	if !ValidClock(c) {
		return "", api.ErrClock
	}
	var words []string
	for _, m := range c {
		words = append(words, strconv.Itoa(m.Local)+"="+strconv.Itoa(m.True))
	}
	return strings.Join(words, " "), api.OK
}

// Parse returns the clock of a text.
func Parse(text string) ([]api.Mark, api.Errno) {
	var c []api.Mark
	// One word more than a clock can have shows that there are too many.
	for _, word := range strings.SplitN(text, " ", api.MaxMarks+1) {
		m, ok := parseMark(word)
		if !ok {
			return nil, api.ErrForm
		}
		c = append(c, m)
	}
	if !ValidClock(c) {
		return nil, api.ErrForm
	}
	return c, api.OK
}

func parseMark(word string) (api.Mark, bool) {
	before, behind, _ := strings.Cut(word, "=")
	local, localIs := parseNumber(before)
	truth, truthIs := parseNumber(behind)
	if !localIs || !truthIs {
		return api.Mark{}, false
	}
	return api.Mark{Local: local, True: truth}, true
}

// parseNumber takes only a number as Format writes it: no sign, no leading zeros.
func parseNumber(text string) (int, bool) {
	n, err := strconv.Atoi(text)
	if err != nil || n < 0 || strconv.Itoa(n) != text {
		return 0, false
	}
	return n, true
}
