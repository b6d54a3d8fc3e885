package link

import (
	"slices"

	"firn/api"
)

// maxSent is how many letters can be sent altogether.
const maxSent = 2000

// waits returns the numbers of the letters that the pole would send in a pass.
func (l *Link) waits() []int {
	var numbers []int
	last := min(l.seen+l.window, len(l.pole))
	for number := l.seen + 1; number <= last; number++ {
		numbers = append(numbers, number)
	}
	return numbers
}

// Waits returns the letters that the pole would send in a pass, in order.
func (l *Link) Waits() []api.Letter {
	if l.none() {
		return nil
	}
	var letters []api.Letter
	for _, number := range l.waits() {
		letters = append(letters, api.Letter{Number: number, Entry: l.pole[number-1]})
	}
	return letters
}

// validPlaces reports whether a list is short enough for a pass, and all of it is from
// a number to below another one.
func validPlaces(list []int, from, below int) bool {
	outside := func(n int) bool { return n < from || n >= below }
	return len(list) <= api.MaxPass && !slices.ContainsFunc(list, outside)
}

// take lets a letter come to the north, and returns the receipt.
func (l *Link) take(number int) int {
	if number == l.north+1 {
		l.north = number
	}
	return l.north
}

// Pass sends letters, of which some come down in some order, and some receipts up.
func (l *Link) Pass(down, up []int) ([]int, api.Errno) {
	if l.none() {
		return nil, api.ErrLink
	}
	// A place in down counts from the first letter of this pass on, to both sides.
	first := len(l.sent)
	all := slices.Concat(l.sent, l.waits())
	if !validPlaces(down, -first, len(all)-first) || !validPlaces(up, 0, len(down)) {
		return nil, api.ErrPass
	}
	if len(all) > maxSent {
		return nil, api.ErrLimit
	}
	l.sent = all
	var receipts []int
	for _, place := range down {
		receipts = append(receipts, l.take(all[first+place]))
	}
	for _, place := range up {
		l.seen = max(l.seen, receipts[place])
	}
	return receipts, api.OK
}

// Clean does a pass in which nothing is lost, doubled or late, and returns how many
// letters were sent.
func (l *Link) Clean() (int, api.Errno) {
	if l.none() {
		return 0, api.ErrLink
	}
	var places []int
	for place := range l.waits() {
		places = append(places, place)
	}
	_, err := l.Pass(places, places)
	if err != api.OK {
		return 0, err
	}
	return len(places), api.OK
}

// Passes returns how many times Clean would have to be done until the pole has seen all
// of its own book. It is told also where so many letters cannot be sent any more.
func Passes(l *Link) (int, api.Errno) {
	if l.none() {
		return 0, api.ErrLink
	}
	passes := 0
	for seen := l.seen; seen < len(l.pole); passes++ {
		// Behind a fall the north may have more than the window reaches, and its
		// receipts tell so.
		seen = max(seen+l.window, l.north)
	}
	return passes, api.OK
}
