package wave

import (
	"slices"

	"firn/api"
)

// areBits reports whether a text has no bytes other than 0 and 1.
func areBits(text string) bool {
	for i := range len(text) {
		if text[i] != '0' && text[i] != '1' {
			return false
		}
	}
	return true
}

// ValidBits reports whether a text is one of bits.
func ValidBits(text string) bool {
	return len(text) <= api.MaxText && areBits(text)
}

// message is what a text of bits says.
type message struct {
	differences []int
	widths      []int // of the words of the differences
	changes     int
}

// read returns what a text of bits says, if it is used up by words that are
// differences, with signs of change only in front of them.
func read(text string) (message, bool) {
	var m message
	step := firstStep
	for text != "" {
		width := allWidths[step]
		if len(text) < width {
			return message{}, false
		}
		word := text[:width]
		text = text[width:]
		if word != sign(width) {
			m.differences = append(m.differences, number(word))
			m.widths = append(m.widths, width)
			continue
		}
		// Behind a sign of change there are its bit and a word of one bit or more.
		if len(text) < 2 {
			return message{}, false
		}
		next, is := changed(step, text[0])
		if !is {
			return message{}, false
		}
		m.changes++
		step, text = next, text[1:]
	}
	return m, true
}

// changed returns the step behind a sign of change with its bit, if there is one.
func changed(step int, bit byte) (int, bool) {
	switch {
	case bit == '1' && step < lastStep:
		return step + 1, true
	case bit == '0' && step > 0:
		return step - 1, true
	}
	return 0, false
}

// readWave returns what a text of a wave form says, and the wave form.
func readWave(text string) (message, []int, api.Errno) {
	if !ValidBits(text) {
		return message{}, nil, api.ErrBits
	}
	m, is := read(text)
	if !is {
		return message{}, nil, api.ErrForm
	}
	s, is := samplesOf(m.differences)
	if !is {
		return message{}, nil, api.ErrForm
	}
	return m, s, api.OK
}

// Decode returns the wave form of a text.
func Decode(text string) ([]int, api.Errno) {
	_, s, err := readWave(text)
	return s, err
}

// IsText reports whether a text is one of a wave form.
func IsText(s []int, text string) (bool, api.Errno) {
	if !Valid(s) {
		return false, api.ErrWave
	}
	if !ValidBits(text) {
		return false, api.ErrBits
	}
	m, is := read(text)
	return is && slices.Equal(m.differences, differencesOf(s)), api.OK
}

// Widths returns the width of the word of each difference of a text.
func Widths(text string) ([]int, api.Errno) {
	m, _, err := readWave(text)
	return m.widths, err
}

// Changes returns how many signs of change a text has.
func Changes(text string) (int, api.Errno) {
	m, _, err := readWave(text)
	return m.changes, err
}
