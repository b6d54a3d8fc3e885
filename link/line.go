package link

import (
	"strconv"
	"strings"

	"firn/api"
)

// maxNumber is the greatest absolute value of a number in a line.
const maxNumber = 999_999

// maxWords is the greatest number of words in a line, other than one that adds an entry.
const maxWords = 4

// words are those of a line, from the first one on; behind them there are empty ones.
type words [maxWords]string

// numbers are those of a line; each has the place of its word, from the second one on.
type numbers [maxWords - 1]int

// aNumber stands for any number among words. No word is equal to it, as no word has a space.
const aNumber = " "

// noNumbers stands for a list without numbers.
const noNumbers = "-"

// numberOf takes only a number as a line has it.
func numberOf(text string) (int, bool) {
	n, err := strconv.Atoi(text)
	if err != nil || n < -maxNumber || n > maxNumber || strconv.Itoa(n) != text {
		return 0, false
	}
	return n, true
}

// listOf returns the numbers of a text with commas between them.
func listOf(text string) ([]int, bool) {
	var list []int
	for part := range strings.SplitSeq(text, ",") {
		n, ok := numberOf(part)
		if !ok {
			return nil, false
		}
		list = append(list, n)
	}
	return list, true
}

// placesOf returns the numbers of a text as listOf, or none.
func placesOf(text string) ([]int, bool) {
	if text == noNumbers {
		return nil, true
	}
	return listOf(text)
}

// placesText returns the text of which placesOf makes a list.
func placesText(list []int) string {
	if len(list) == 0 {
		return noNumbers
	}
	var texts []string
	for _, n := range list {
		texts = append(texts, strconv.Itoa(n))
	}
	return strings.Join(texts, ",")
}

// written returns a number as an answer, and nothing with an error.
func written(n int, err api.Errno) (string, api.Errno) {
	if err != api.OK {
		return "", err
	}
	return strconv.Itoa(n), api.OK
}

// wordsOf returns the words of a line with single spaces between them, and none of a
// line that is not so.
func wordsOf(line string) words {
	var w words
	// One word more than a line can have shows that there are too many.
	for a, word := range strings.SplitN(line, " ", maxWords+1) {
		if word == "" || a == maxWords {
			return words{}
		}
		w[a] = word
	}
	return w
}

// numbered returns words in which a mark stands for each number, and the numbers.
func (w words) numbered() (words, numbers) {
	marked, n := w, numbers{}
	for a := range n {
		number, ok := numberOf(w[a+1])
		if ok {
			marked[a+1], n[a] = aNumber, number
		}
	}
	return marked, n
}
