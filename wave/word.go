package wave

import (
	"strings"

	"firn/api"
)

// howMany is how many widths there are.
const howMany = 5

// allWidths are the widths, ascending. A step is a place in this table, so that a
// sign of change goes one step up or down.
var allWidths = [howMany]int{1, 2, 3, 6, 11}

const (
	firstStep = 2 // of the width 3, by which a text of bits begins to be read
	lastStep  = howMany - 1
)

// leastStep returns the step of the least width to which ask says yes, if there is one.
func leastStep(ask func(width int) bool) (int, bool) {
	for step := range howMany {
		if ask(allWidths[step]) {
			return step, true
		}
	}
	return 0, false
}

// stepOf returns the step of a number that is a width.
func stepOf(n int) (int, bool) {
	return leastStep(func(width int) bool { return width == n })
}

// inWord reports whether a word of a width can stand for a number.
func inWord(width, n int) bool {
	half := 1 << (width - 1)
	return -half <= n && n < half
}

// canHave reports whether a difference can have a width: the least number of a
// word is the sign of change, and no difference.
func canHave(width, difference int) bool {
	return inWord(width, difference) && inWord(width, -difference)
}

// sign returns the sign of change of a width.
func sign(width int) string {
	return "1" + strings.Repeat("0", width-1)
}

// Word returns the word of a width for a number.
func Word(width, n int) (string, api.Errno) {
	if _, is := stepOf(width); !is || !inWord(width, n) {
		return "", api.ErrArg
	}
	return word(width, n), api.OK
}

// word is Word for arguments that are in range.
func word(width, n int) string {
	bits := make([]byte, width)
	for i := range width {
		bits[i] = '0' + byte(n>>(width-1-i)&1)
	}
	return string(bits)
}

// Number returns the number of a word.
func Number(word string) (int, api.Errno) {
	if _, is := stepOf(len(word)); !is || !areBits(word) {
		return 0, api.ErrForm
	}
	return number(word), api.OK
}

// number is Number for a text that is a word.
func number(word string) int {
	n := 0
	for i := range len(word) {
		n = 2*n + int(word[i]-'0')
	}
	if word[0] == '1' {
		// The highest bit was counted up, but counts down.
		n -= 1 << len(word)
	}
	return n
}
