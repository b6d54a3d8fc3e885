package wave

import (
	"slices"
	"strings"

	"firn/api"
)

// ways are texts of the same differences, one for each step at which it begins to be read.
type ways [howMany]string

// change returns the signs of change, each with its bit, from a step to another
// one: none that could be left out.
func change(from, to int) string {
	var signs strings.Builder
	for ; from < to; from++ {
		signs.WriteString(sign(allWidths[from]) + "1")
	}
	for ; from > to; from-- {
		signs.WriteString(sign(allWidths[from]) + "0")
	}
	return signs.String()
}

// better reports whether a text has fewer bits than another one, or as many and comes first.
func better(a, b string) bool {
	return len(a) < len(b) || len(a) == len(b) && a < b
}

// inFront returns the best ways of a difference and of all that stands behind it.
// Whatever is in front of the latter, its own best text is best.
func inFront(difference int, behind ways) ways {
	var best ways
	for from := range howMany {
		for to := range howMany {
			if !canHave(allWidths[to], difference) {
				continue
			}
			text := change(from, to) + word(allWidths[to], difference) + behind[to]
			// No text with a difference is empty, so that an empty one is none yet.
			if best[from] == "" || better(text, best[from]) {
				best[from] = text
			}
		}
	}
	return best
}

// Encode returns the text of a wave form with the fewest bits, of several the one
// that comes first.
func Encode(s []int) (string, api.Errno) {
	if !Valid(s) {
		return "", api.ErrWave
	}
	var best ways
	for _, d := range slices.Backward(differencesOf(s)) {
		best = inFront(d, best)
	}
	return best[firstStep], api.OK
}

// Length returns how many bits Encode has.
func Length(s []int) (int, api.Errno) {
	text, err := Encode(s)
	return len(text), err
}

// Bound returns the sum, over all differences, of the least width that they can have.
func Bound(s []int) (int, api.Errno) {
	if !Valid(s) {
		return 0, api.ErrWave
	}
	sum := 0
	for _, d := range differencesOf(s) {
		// There is one always: the greatest width has all differences.
		step, _ := leastStep(func(width int) bool { return canHave(width, d) })
		sum += allWidths[step]
	}
	return sum, api.OK
}

// Wide returns the text in which all differences have the greatest width.
func Wide(s []int) (string, api.Errno) {
	if !Valid(s) {
		return "", api.ErrWave
	}
	return Plan(s, slices.Repeat([]int{allWidths[lastStep]}, len(s)))
}

// Plan returns the text in which the differences have some widths, with as few
// signs of change as can be.
func Plan(s []int, widths []int) (string, api.Errno) {
	if !Valid(s) {
		return "", api.ErrWave
	}
	if len(widths) != len(s) {
		return "", api.ErrArg
	}
	steps, is := stepsOf(widths)
	if !is {
		return "", api.ErrArg
	}
	var text strings.Builder
	step := firstStep
	for i, d := range differencesOf(s) {
		if !canHave(widths[i], d) {
			return "", api.ErrNone
		}
		text.WriteString(change(step, steps[i]) + word(widths[i], d))
		step = steps[i]
	}
	if text.Len() > api.MaxText {
		return "", api.ErrLimit
	}
	return text.String(), api.OK
}

// stepsOf returns the steps of numbers that are all widths.
func stepsOf(numbers []int) ([]int, bool) {
	var steps []int
	for _, n := range numbers {
		step, is := stepOf(n)
		if !is {
			return nil, false
		}
		steps = append(steps, step)
	}
	return steps, true
}
