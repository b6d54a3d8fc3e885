package link

import (
	"strconv"
	"strings"

	"firn/api"
	"firn/ice"
	"firn/prov"
	"firn/sky"
	"firn/tick"
	"firn/wave"
)

// question is what a link can be asked.
type question interface {
	answer(l *Link) (string, api.Errno)
}

// bookQuestion asks for what is told of an entry of the north's book.
type bookQuestion struct {
	number int
	tell   func(entry string) (string, api.Errno)
}

// ringQuestion asks for the ring number of a pixel.
type ringQuestion struct{ order, pixel int }

// lossQuestion asks for the loss from the top of a layer to a depth.
type lossQuestion struct {
	layer api.Layer
	depth int
}

func (q bookQuestion) answer(l *Link) (string, api.Errno) {
	entry, err := l.Entry(q.number)
	if err != api.OK {
		return "", err
	}
	return q.tell(entry)
}

func (q ringQuestion) answer(*Link) (string, api.Errno) {
	return written(sky.Ring(q.order, q.pixel))
}

func (q lossQuestion) answer(*Link) (string, api.Errno) {
	return written(ice.Loss([]api.Layer{q.layer}, 0, q.depth))
}

func itself(entry string) (string, api.Errno) {
	return entry, api.OK
}

// timeAt tells the time of a clock at a local time.
func timeAt(local int) func(entry string) (string, api.Errno) {
	return func(entry string) (string, api.Errno) {
		clock, err := tick.Parse(entry)
		if err != api.OK {
			return "", err
		}
		time, err := tick.At(clock, local)
		if err != api.OK {
			return "", err
		}
		return strconv.Itoa(time.N) + "/" + strconv.Itoa(time.D), api.OK
	}
}

// length tells the fewest bits of a wave form.
func length(entry string) (string, api.Errno) {
	samples, ok := listOf(entry)
	if !ok {
		return "", api.ErrForm
	}
	return written(wave.Length(samples))
}

// why tells the sets of tokens by which a sum is there.
func why(entry string) (string, api.Errno) {
	sum, err := prov.Parse(entry)
	if err != api.OK {
		return "", err
	}
	sets, err := prov.Why(sum)
	return strings.Join(sets, " "), err
}

// questionOf returns the question that words ask, if they ask one.
func questionOf(w words) (question, bool) {
	marked, n := w.numbered()
	switch {
	case marked == words{"entry", aNumber}:
		return bookQuestion{n[0], itself}, true
	case marked == words{"clock", aNumber, aNumber}:
		return bookQuestion{n[0], timeAt(n[1])}, true
	case marked == words{"wave", aNumber}:
		return bookQuestion{n[0], length}, true
	case marked == words{"why", aNumber}:
		return bookQuestion{n[0], why}, true
	case marked == words{"ring", aNumber, aNumber}:
		return ringQuestion{n[0], n[1]}, true
	case marked == words{"loss", aNumber, aNumber, aNumber}:
		return lossQuestion{api.Layer{Thick: n[0], Dim: n[1]}, n[2]}, true
	}
	return nil, false
}

// Ask answers a question from the north's book.
func (l *Link) Ask(line string) (string, api.Errno) {
	if l.none() {
		return "", api.ErrLink
	}
	q, ok := questionOf(wordsOf(line))
	if !ok {
		return "", api.ErrCommand
	}
	return q.answer(l)
}
