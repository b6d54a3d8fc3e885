package tick

import (
	"math/bits"

	"firn/api"
)

// line goes straight through two neighbouring marks of a clock.
type line struct {
	from, to api.Mark
}

// firstLocal returns the local time at which the line starts.
func (l line) firstLocal() int {
	return l.from.Local
}

// firstTrue returns the true time at which the line starts.
func (l line) firstTrue() int {
	return l.from.True
}

// speed returns how fast the line goes.
func (l line) speed() api.Ratio {
	return lowest(l.to.True-l.from.True, l.to.Local-l.from.Local)
}

// inverse returns the line with local and true times exchanged.
func (l line) inverse() line {
	return line{from: exchanged(l.from), to: exchanged(l.to)}
}

// at returns the time of the line at a local time. It stays within 64 bits for
// all that Back takes: the terms are below 1.2 * 10^16, the divisor at most 10^10.
func (l line) at(local api.Ratio) api.Ratio {
	rise := l.to.True - l.from.True
	run := l.to.Local - l.from.Local
	behind := local.N - l.from.Local*local.D
	return lowest(l.from.True*local.D*run+behind*rise, local.D*run)
}

func exchanged(m api.Mark) api.Mark {
	return api.Mark{Local: m.True, True: m.Local}
}

// lines returns the lines between the neighbouring marks of a clock.
func lines(c []api.Mark) []line {
	var l []line
	for i, m := range c[1:] {
		l = append(l, line{from: c[i], to: m})
	}
	return l
}

// lineOf returns the line by which a clock goes at x: the last one that starts
// at x or in front of it, or else the first one. What a line starts at is told
// by start, so that x is a local or a true time.
func lineOf(c []api.Mark, start func(line) int, x api.Ratio) line {
	all := lines(c)
	found := all[0]
	for _, l := range all[1:] {
		if start(l)*x.D <= x.N {
			found = l
		}
	}
	return found
}

// told returns what tell says of each line of a clock.
func told(c []api.Mark, tell func(line) api.Ratio) []api.Ratio {
	var all []api.Ratio
	for _, l := range lines(c) {
		all = append(all, tell(l))
	}
	return all
}

// lowest returns n / d in lowest terms; d is above 0.
func lowest(n, d int) api.Ratio {
	a, b := max(n, -n), d
	for b != 0 {
		a, b = b, a%b
	}
	return api.Ratio{N: n / a, D: d / a}
}

// less reports whether a is less than b, both at least 0. Their cross products
// may have more than 64 bits.
func less(a, b api.Ratio) bool {
	aHigh, aLow := bits.Mul64(uint64(a.N), uint64(b.D))
	bHigh, bLow := bits.Mul64(uint64(b.N), uint64(a.D))
	return aHigh < bHigh || aHigh == bHigh && aLow < bLow
}

// difference returns by how much two times differ. It stays within 64 bits for
// times that a clock has at whole local times: N is at most 2 * 10^10, D 10^5.
func difference(a, b api.Ratio) api.Ratio {
	n := a.N*b.D - b.N*a.D
	return lowest(max(n, -n), a.D*b.D)
}
