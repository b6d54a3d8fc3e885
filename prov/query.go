package prov

import (
	"strconv"
	"strings"

	"firn/api"
)

// kind is what a word of a query does.
type kind int

const (
	put kind = iota
	or
	by
	drop
	pick
	same
)

// takes returns how many tables a word takes off the pile.
func (k kind) takes() int {
	switch k {
	case put:
		return 0
	case or, by:
		return 2
	}
	return 1
}

// word is a word of a query, with its numbers: the table, the column, or the columns,
// and the value.
type word struct {
	kind kind
	n, m int
}

// pile is what the words of a query are done with, the uppermost last.
type pile[T any] []T

// upper returns the n uppermost.
func (p pile[T]) upper(n int) []T {
	return p[len(p)-n:]
}

// below returns the pile without the n uppermost. It has no room behind its end, so
// that what is put on it never writes over what is taken off.
func (p pile[T]) below(n int) pile[T] {
	left := len(p) - n
	return p[:left:left]
}

func digit(text string) (int, bool) {
	if len(text) != 1 || text[0] < '0' || text[0] > '9' {
		return 0, false
	}
	return int(text[0] - '0'), true
}

// valueOf takes only a number as a word of a query has it.
func valueOf(text string) (int, bool) {
	n, err := strconv.Atoi(text)
	if err != nil || n < -maxValue || n > maxValue || strconv.Itoa(n) != text {
		return 0, false
	}
	return n, true
}

// wordOf returns the word of a text.
func wordOf(text string) (word, bool) {
	if len(text) == 1 {
		return word{kind: put, n: int(text[0]) - 'A'}, 'A' <= text[0] && text[0] <= 'D'
	}
	switch text {
	case "or":
		return word{kind: or}, true
	case "by":
		return word{kind: by}, true
	}
	if rest, ok := strings.CutPrefix(text, "drop"); ok {
		n, is := digit(rest)
		return word{kind: drop, n: n}, is
	}
	if rest, ok := strings.CutPrefix(text, "pick"); ok {
		before, behind, _ := strings.Cut(rest, "=")
		n, isColumn := digit(before)
		v, isValue := valueOf(behind)
		return word{kind: pick, n: n, m: v}, isColumn && isValue
	}
	if rest, ok := strings.CutPrefix(text, "same"); ok && rest != "" {
		n, isOne := digit(rest[:1])
		m, isOther := digit(rest[1:])
		return word{kind: same, n: n, m: m}, isOne && isOther
	}
	return word{}, false
}

// wordsOf returns the words of a text.
func wordsOf(query string) ([]word, bool) {
	var words []word
	// One word more than a query can have shows that there are too many.
	for _, text := range strings.SplitN(query, " ", api.MaxWords+1) {
		w, ok := wordOf(text)
		if !ok {
			return nil, false
		}
		words = append(words, w)
	}
	return words, len(words) <= api.MaxWords
}

// wide returns the Wide of the table that a word puts on the pile, if there is one for
// the Wide of those that it takes.
func (w word) wide(t []api.Table, taken []int) (int, bool) {
	switch w.kind {
	case put:
		if w.n >= len(t) {
			return 0, false
		}
		return t[w.n].Wide, true
	case or:
		return taken[0], taken[0] == taken[1]
	case by:
		both := taken[0] + taken[1] - 1
		return both, both <= api.MaxWide
	case drop:
		return taken[0] - 1, taken[0] > 1 && w.n < taken[0]
	case pick:
		return taken[0], w.n < taken[0]
	}
	return taken[0], max(w.n, w.m) < taken[0]
}

// wideOf returns the Wide of the answer, if words are valid for tables.
func wideOf(t []api.Table, words []word) (int, bool) {
	var p pile[int]
	for _, w := range words {
		n := w.kind.takes()
		if n > len(p) {
			return 0, false
		}
		wide, ok := w.wide(t, p.upper(n))
		if !ok {
			return 0, false
		}
		p = append(p.below(n), wide)
	}
	if len(p) != 1 {
		return 0, false
	}
	return p[0], true
}
