package tick

import (
	"slices"

	"firn/api"
)

// What Back takes: the greatest divisor, and the greatest absolute value of what is divided.
const (
	maxDivisor = 100000
	maxDivided = 100000000000
)

func validTick(n int) bool {
	return 0 <= n && n <= api.MaxTick
}

func whole(n int) api.Ratio {
	return api.Ratio{N: n, D: 1}
}

// ValidClock reports whether a clock is one.
func ValidClock(c []api.Mark) bool {
	if len(c) < 2 || len(c) > api.MaxMarks {
		return false
	}
	for i, m := range c {
		if !validTick(m.Local) || !validTick(m.True) {
			return false
		}
		if i > 0 && (m.Local <= c[i-1].Local || m.True <= c[i-1].True) {
			return false
		}
	}
	return true
}

// checkLocal returns the error of a clock and of a local time.
func checkLocal(c []api.Mark, local int) api.Errno {
	if !ValidClock(c) {
		return api.ErrClock
	}
	if !validTick(local) {
		return api.ErrArg
	}
	return api.OK
}

// At returns the time of a clock at a local time.
func At(c []api.Mark, local int) (api.Ratio, api.Errno) {
	if err := checkLocal(c, local); err != api.OK {
		return api.Ratio{}, err
	}
	return timeAt(c, local), api.OK
}

// timeAt is At for arguments that are valid.
func timeAt(c []api.Mark, local int) api.Ratio {
	x := whole(local)
	return lineOf(c, line.firstLocal, x).at(x)
}

// Back returns the local time of a clock at a true time.
func Back(c []api.Mark, t api.Ratio) (api.Ratio, api.Errno) {
	if !ValidClock(c) {
		return api.Ratio{}, api.ErrClock
	}
	if t.D < 1 || t.D > maxDivisor || t.N < -maxDivided || t.N > maxDivided {
		return api.Ratio{}, api.ErrArg
	}
	return lineOf(c, line.firstTrue, t).inverse().at(t), api.OK
}

// Speed returns how fast a clock goes at a local time.
func Speed(c []api.Mark, local int) (api.Ratio, api.Errno) {
	if err := checkLocal(c, local); err != api.OK {
		return api.Ratio{}, err
	}
	return lineOf(c, line.firstLocal, whole(local)).speed(), api.OK
}

// Speeds returns the least and the greatest speed of a clock.
func Speeds(c []api.Mark) (least, greatest api.Ratio, err api.Errno) {
	if !ValidClock(c) {
		return api.Ratio{}, api.Ratio{}, api.ErrClock
	}
	speeds := told(c, line.speed)
	least, greatest = speeds[0], speeds[0]
	for _, s := range speeds[1:] {
		if less(s, least) {
			least = s
		}
		if less(greatest, s) {
			greatest = s
		}
	}
	return least, greatest, api.OK
}

// Straight returns a clock without the marks at which it is straight.
func Straight(c []api.Mark) ([]api.Mark, api.Errno) {
	if !ValidClock(c) {
		return nil, api.ErrClock
	}
	speeds := told(c, line.speed)
	last := len(c) - 1
	kept := []api.Mark{c[0]}
	for i := 1; i < last; i++ {
		// Both lines meet at the mark, so that equal speeds make them one.
		if speeds[i-1] != speeds[i] {
			kept = append(kept, c[i])
		}
	}
	return append(kept, c[last]), api.OK
}

// Inverse returns a clock with local and true times exchanged.
func Inverse(c []api.Mark) ([]api.Mark, api.Errno) {
	if !ValidClock(c) {
		return nil, api.ErrClock
	}
	turned := make([]api.Mark, 0, len(c))
	for _, m := range c {
		turned = append(turned, exchanged(m))
	}
	return turned, api.OK
}

// Moved returns a clock whose true times are more by a number.
func Moved(c []api.Mark, by int) ([]api.Mark, api.Errno) {
	if !ValidClock(c) {
		return nil, api.ErrClock
	}
	// The number itself may be so large that a sum with it would go round.
	if by < -c[0].True || by > api.MaxTick-c[len(c)-1].True {
		return nil, api.ErrArg
	}
	moved := make([]api.Mark, 0, len(c))
	for _, m := range c {
		moved = append(moved, api.Mark{Local: m.Local, True: m.True + by})
	}
	return moved, api.OK
}

// corners returns the local times, ascending, between which both clocks go
// straight: both ends, and all marks from the one to the other.
func corners(c, d []api.Mark, from, to int) []int {
	all := []int{from, to}
	for _, m := range slices.Concat(c, d) {
		if from < m.Local && m.Local < to {
			all = append(all, m.Local)
		}
	}
	slices.Sort(all)
	return all
}

// Apart returns the first local time, from one to another one, at which two
// clocks differ most, and by how much.
func Apart(c, d []api.Mark, from, to int) (int, api.Ratio, api.Errno) {
	if !ValidClock(c) || !ValidClock(d) {
		return 0, api.Ratio{}, api.ErrClock
	}
	if !validTick(from) || !validTick(to) || from > to {
		return 0, api.Ratio{}, api.ErrArg
	}
	at, most := from, whole(0)
	// Between two corners the difference goes straight, so that its absolute value
	// is greatest at one of them; if also in between, then at both.
	for _, x := range corners(c, d, from, to) {
		if gap := difference(timeAt(c, x), timeAt(d, x)); less(most, gap) {
			at, most = x, gap
		}
	}
	return at, most, api.OK
}

// Same reports whether two clocks have the same time at all local times.
func Same(c, d []api.Mark) (bool, api.Errno) {
	if !ValidClock(c) || !ValidClock(d) {
		return false, api.ErrClock
	}
	// Two clocks that go straight between corners and agree at them agree everywhere.
	for _, x := range corners(c, d, 0, api.MaxTick) {
		if timeAt(c, x) != timeAt(d, x) {
			return false, api.OK
		}
	}
	return true, api.OK
}
