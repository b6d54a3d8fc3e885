package link

import (
	"strconv"
	"strings"

	"firn/api"
)

// addLine adds an entry.
type addLine struct{ entry string }

// passLine does a pass.
type passLine struct{ down, up []int }

// cleanLine does a clean pass.
type cleanLine struct{}

// fallLine lets the pole fall.
type fallLine struct{}

// countLine asks for a number of a link.
type countLine func(l *Link) int

// passOf returns the line of a pass with two lists, if they are lists.
func passOf(before, behind string) any {
	down, isDown := placesOf(before)
	up, isUp := placesOf(behind)
	if !isDown || !isUp {
		return nil
	}
	return passLine{down, up}
}

// lineOf returns the line of a text: one of the types above, a question, or nil.
func lineOf(text string) any {
	if entry, ok := strings.CutPrefix(text, "add "); ok {
		return addLine{entry}
	}
	w := wordsOf(text)
	switch {
	case w == words{"clean"}:
		return cleanLine{}
	case w == words{"fall"}:
		return fallLine{}
	case w == words{"seen"}:
		return countLine((*Link).Seen)
	case w == words{"sent"}:
		return countLine((*Link).Sent)
	case w == words{"pole"}:
		return countLine(func(l *Link) int { return len(l.pole) })
	case w == words{"north"}:
		return countLine(func(l *Link) int { return l.north })
	case w == words{"pass", w[1], w[2]}:
		return passOf(w[1], w[2])
	}
	if q, ok := questionOf(w); ok {
		return q
	}
	return nil
}

// do does a line and returns the answer.
func (l *Link) do(line any) (string, api.Errno) {
	switch x := line.(type) {
	case addLine:
		err := l.Add(x.entry)
		return written(len(l.pole), err)
	case passLine:
		receipts, err := l.Pass(x.down, x.up)
		if err != api.OK {
			return "", err
		}
		return placesText(receipts), api.OK
	case cleanLine:
		return written(l.Clean())
	case fallLine:
		return "ok", l.Fall()
	case countLine:
		return written(x(l), api.OK)
	case question:
		return x.answer(l)
	}
	return "", api.ErrCommand
}

// Play does lines, in order, with a new link, and returns the answers.
func Play(window int, lines []string) ([]string, api.Errno) {
	l, err := New(window)
	if err != api.OK {
		return nil, err
	}
	if len(lines) > api.MaxLines {
		return nil, api.ErrLimit
	}
	var answers []string
	for _, text := range lines {
		answer, err := l.do(lineOf(text))
		if err != api.OK {
			answer = "error " + strconv.Itoa(int(err))
		}
		answers = append(answers, answer)
	}
	return answers, api.OK
}
