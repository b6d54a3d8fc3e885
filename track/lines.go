package track

import (
	"cmp"
	"iter"
	"slices"

	"firn/api"
)

// lowest returns n / d in lowest terms; d is above 0.
func lowest(n, d int) api.Ratio {
	a, b := size(n), d
	for b != 0 {
		a, b = b, a%b
	}
	return api.Ratio{N: n / a, D: d / a}
}

// size returns the absolute value of a number.
func size(n int) int {
	return max(n, -n)
}

// compare compares two ratios. Those of lines through points, and of lines parallel
// to such ones, are so small that their cross products stay within 64 bits.
func compare(a, b api.Ratio) int {
	return cmp.Compare(a.N*b.D, b.N*a.D)
}

// pairs returns an iterator over all pairs of points with different X, each pair once.
func pairs(p []api.Point) iter.Seq2[api.Point, api.Point] {
	return func(yield func(a, b api.Point) bool) {
		for n, b := range p {
			for _, a := range p[:n] {
				if a.X != b.X && !yield(a, b) {
					return
				}
			}
		}
	}
}

// through returns the line through two points with different X.
func through(a, b api.Point) api.Line {
	if a.X > b.X {
		a, b = b, a
	}
	slope := lowest(b.Y-a.Y, b.X-a.X)
	// What divides A and D divides this B too, so that all three are in lowest terms.
	return api.Line{A: slope.N, B: a.Y*slope.D - a.X*slope.N, D: slope.D}
}

// rest returns the rest of a point, times the D of the line.
func rest(q api.Point, x api.Line) int {
	return q.Y*x.D - q.X*x.A - x.B
}

// rests returns the rests of points, times the D of the line.
func rests(p []api.Point, x api.Line) []int {
	all := make([]int, 0, len(p))
	for _, q := range p {
		all = append(all, rest(q, x))
	}
	return all
}

// cost returns the cost of a line.
func cost(p []api.Point, x api.Line) api.Ratio {
	sum := 0
	for _, r := range rests(p, x) {
		sum += size(r)
	}
	return lowest(sum, x.D)
}

// width returns the width of a line.
func width(p []api.Point, x api.Line) api.Ratio {
	most := 0
	for _, r := range rests(p, x) {
		most = max(most, size(r))
	}
	return lowest(most, x.D)
}

// on returns the indexes of the points on a line.
func on(p []api.Point, x api.Line) []int {
	var l []int
	for n, r := range rests(p, x) {
		if r == 0 {
			l = append(l, n)
		}
	}
	return l
}

// best returns the line of which told says least, of those that made makes of
// all pairs of points.
func best(p []api.Point, made func(a, b api.Point) api.Line, told func(p []api.Point, x api.Line) api.Ratio) api.Line {
	var lines []api.Line
	for a, b := range pairs(p) {
		lines = append(lines, made(a, b))
	}
	return slices.MinFunc(lines, func(x, y api.Line) int { return compare(told(p, x), told(p, y)) })
}
