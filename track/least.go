package track

import (
	"cmp"
	"slices"

	"firn/api"
)

// What Proves takes: the greatest M, and the greatest N and D of a cost.
const (
	maxM     = 10000
	maxCostN = 1000000000
	maxCostD = 10000
)

// cheapest returns a line with the least cost. One that goes through two points is
// among those that have it: a line can be moved, and then turned about a point,
// to the next point without costing more.
func cheapest(p []api.Point) api.Line {
	return best(p, through, cost)
}

// Least returns the least cost of any line.
func Least(p []api.Point) (api.Ratio, api.Errno) {
	if !Valid(p) {
		return api.Ratio{}, api.ErrPoints
	}
	return cost(p, cheapest(p)), api.OK
}

// Line returns a line with the least cost.
func Line(p []api.Point) (api.Line, api.Errno) {
	if !Valid(p) {
		return api.Line{}, api.ErrPoints
	}
	return cheapest(p), api.OK
}

// Weights returns weights that prove the least cost, and their M.
func Weights(p []api.Point) ([]int, int, api.Errno) {
	if !Valid(p) {
		return nil, 0, api.ErrPoints
	}
	weights, m := proof(p, cheapest(p))
	return weights, m, api.OK
}

// proof returns weights that prove the cost of the cheapest line, and their M. A
// point above the line has M, one below -M, so that the sum of all W * Y is M times
// the cost. Those on the line make up for the sums of all W and of all W * X. That
// they can is what makes the line a cheapest one.
func proof(p []api.Point, x api.Line) ([]int, int) {
	sides := make([]int, len(p))
	for n, r := range rests(p, x) {
		sides[n] = cmp.Compare(r, 0)
	}
	total, turn := sums(p, sides)
	free := on(p, x)
	slices.SortFunc(free, func(a, b int) int { return cmp.Compare(p[a].X, p[b].X) })
	right := leaning(len(free), -total)
	left := slices.Clone(right)
	slices.Reverse(left)
	_, most := sums(chosen(p, free), right)
	_, least := sums(chosen(p, free), left)
	// The sum of all W * X that is wanted lies between the least and the greatest
	// one, so that both, mixed, give it.
	toRight, toLeft := -turn-least, most+turn
	if toRight+toLeft == 0 {
		toRight = 1
	}
	m := toRight + toLeft
	weights := make([]int, len(p))
	for n, side := range sides {
		weights[n] = side * m
	}
	for n, k := range free {
		weights[k] = right[n]*toRight + left[n]*toLeft
	}
	return weights, m
}

// sums returns the sums of all W and of all W * X.
func sums(p []api.Point, weights []int) (total, turn int) {
	for n, w := range weights {
		total += w
		turn += w * p[n].X
	}
	return total, turn
}

// chosen returns the points with some indexes.
func chosen(p []api.Point, indexes []int) []api.Point {
	l := make([]api.Point, 0, len(indexes))
	for _, n := range indexes {
		l = append(l, p[n])
	}
	return l
}

// leaning returns n weights from -1 to 1 with a sum, those that lean most to the
// right: first -1, then at most one 0, then 1.
func leaning(n, sum int) []int {
	weights := make([]int, n)
	for k := range (n - sum) / 2 {
		weights[k] = -1
	}
	for k := range (n + sum) / 2 {
		weights[n-1-k] = 1
	}
	return weights
}

// Proves reports whether weights prove a cost.
func Proves(p []api.Point, weights []int, m int, cost api.Ratio) (bool, api.Errno) {
	if !Valid(p) {
		return false, api.ErrPoints
	}
	if m < 1 || m > maxM || len(weights) != len(p) || !within(m, weights...) {
		return false, api.ErrArg
	}
	if cost.D < 1 || cost.D > maxCostD || cost.N < 0 || cost.N > maxCostN {
		return false, api.ErrArg
	}
	if total, turn := sums(p, weights); total != 0 || turn != 0 {
		return false, api.OK
	}
	proved := 0
	for n, w := range weights {
		proved += w * p[n].Y
	}
	return proved*cost.D >= cost.N*m, api.OK
}
