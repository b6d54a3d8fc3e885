package weigh

import (
	"cmp"
	"slices"

	"firn/api"
)

// before reports whether the signal of an outcome, divided by its noise, is greater
// than that of another one.
func (o odds) before(a, b int) bool {
	return o.Signal[a]*o.Noise[b] > o.Signal[b]*o.Noise[a]
}

// empty reports whether an outcome has neither noise nor signal.
func (o odds) empty(a int) bool {
	return o.Noise[a] == 0 && o.Signal[a] == 0
}

// order compares two outcomes by their places in the row.
func (o odds) order(a, b int) int {
	switch {
	// An empty outcome is neither before nor behind any other one by its weights: it
	// must be told first, or else the order would not be one.
	case o.empty(a) != o.empty(b):
		if o.empty(a) {
			return 1
		}
		return -1
	case o.before(a, b):
		return -1
	case o.before(b, a):
		return 1
	}
	return cmp.Compare(a, b)
}

// row returns all outcomes, in the order of the row.
func (o odds) row() []int {
	row := make([]int, o.count())
	for a := range row {
		row[a] = a
	}
	slices.SortFunc(row, o.order)
	return row
}

// Row returns the row.
func Row(o api.Odds) ([]int, api.Errno) {
	s, err := summed(o)
	if err != api.OK {
		return nil, err
	}
	return s.row(), api.OK
}

// Cut returns the cut of k.
func Cut(o api.Odds, k int) ([]int, api.Errno) {
	row, err := Row(o)
	if err != api.OK {
		return nil, err
	}
	if k < 0 || k > len(row) {
		return nil, api.ErrArg
	}
	cut := row[:k]
	slices.Sort(cut)
	return cut, api.OK
}

// curve returns the weights, of noise and of signal, that the cut of each k keeps.
func (o odds) curve() [][2]int {
	var at [2]int
	points := [][2]int{at}
	for _, a := range o.row() {
		at[0] += o.Noise[a]
		at[1] += o.Signal[a]
		points = append(points, at)
	}
	return points
}

// Curve returns the curve: for each k the noise and the signal of the cut of k.
func Curve(o api.Odds) ([][2]api.Ratio, api.Errno) {
	s, err := summed(o)
	if err != api.OK {
		return nil, err
	}
	var curve [][2]api.Ratio
	for _, p := range s.curve() {
		curve = append(curve, [2]api.Ratio{ratio(p[0], s.allNoise), ratio(p[1], s.allSignal)})
	}
	return curve, api.OK
}

// half returns half of a product of weights, a noise and a signal, as a ratio of odds.
func (o odds) half(product int) api.Ratio {
	return ratio(product, 2*o.allNoise*o.allSignal)
}

// Area returns the area under the curve.
func Area(o api.Odds) (api.Ratio, api.Errno) {
	s, err := summed(o)
	if err != api.OK {
		return api.Ratio{}, err
	}
	double := 0
	var last [2]int
	for _, p := range s.curve() {
		double += (p[0] - last[0]) * (last[1] + p[1])
		last = p
	}
	return s.half(double), api.OK
}

// Pairs returns how much of signal comes before noise, counted by pairs of outcomes.
func Pairs(o api.Odds) (api.Ratio, api.Errno) {
	s, err := summed(o)
	if err != api.OK {
		return api.Ratio{}, err
	}
	double := 0
	for a := range s.count() {
		for b := range s.count() {
			double += s.share(a, b) * s.Signal[a] * s.Noise[b]
		}
	}
	return s.half(double), api.OK
}

// share returns how many halves of a pair count.
func (o odds) share(a, b int) int {
	switch {
	case o.before(a, b):
		return 2
	case o.before(b, a):
		return 0
	}
	return 1
}
