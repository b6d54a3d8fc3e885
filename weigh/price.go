package weigh

import (
	"cmp"
	"slices"

	"firn/api"
)

// The limits of ratios that are arguments. They keep all products within 64 bits.
const (
	maxPriceN = 1000000000
	maxPriceD = 10000000
	maxNoiseD = 1000000
)

// priced are odds and a price.
type priced struct {
	odds
	price api.Ratio
}

// at returns odds at a price, if both are valid.
func at(o api.Odds, price api.Ratio) (priced, api.Errno) {
	s, err := summed(o)
	if err != api.OK {
		return priced{}, err
	}
	if price.D < 1 || price.D > maxPriceD || price.N < 0 || price.N > maxPriceN {
		return priced{}, api.ErrArg
	}
	return priced{s, price}, api.OK
}

// unit returns what the gains of outcomes are counted in: the common denominator.
func (p priced) unit() int {
	return p.allSignal * p.price.D * p.allNoise
}

// gain returns the gain of an outcome, in units.
func (p priced) gain(a int) int {
	return p.Signal[a]*p.price.D*p.allNoise - p.Noise[a]*p.price.N*p.allSignal
}

// total returns the gain of a cut, in units.
func (p priced) total(cut []int) int {
	t := 0
	for _, a := range cut {
		t += p.gain(a)
	}
	return t
}

// dearest returns the outcomes that have a gain above 0. Any other one would make the
// gain of the cut less, or the cut longer for nothing.
func (p priced) dearest() []int {
	var cut []int
	for a := range p.count() {
		if p.gain(a) > 0 {
			cut = append(cut, a)
		}
	}
	return cut
}

// Gain returns the gain of a cut at a price.
func Gain(o api.Odds, cut []int, price api.Ratio) (api.Ratio, api.Errno) {
	p, err := at(o, price)
	if err != api.OK {
		return api.Ratio{}, err
	}
	if !p.validCut(cut) {
		return api.Ratio{}, api.ErrArg
	}
	return ratio(p.total(cut), p.unit()), api.OK
}

// Dearest returns the cut with the greatest gain at a price, of several the one with
// the fewest outcomes.
func Dearest(o api.Odds, price api.Ratio) ([]int, api.Errno) {
	p, err := at(o, price)
	if err != api.OK {
		return nil, err
	}
	return p.dearest(), api.OK
}

// Proves reports whether no cut has a greater gain at a price than a cut.
func Proves(o api.Odds, cut []int, price api.Ratio) (bool, api.Errno) {
	p, err := at(o, price)
	if err != api.OK {
		return false, err
	}
	if !p.validCut(cut) {
		return false, api.ErrArg
	}
	return p.total(cut) == p.total(p.dearest()), api.OK
}

// Price returns a price that proves the cut of k.
func Price(o api.Odds, k int) (api.Ratio, api.Errno) {
	s, err := summed(o)
	if err != api.OK {
		return api.Ratio{}, err
	}
	if k < 1 || k > s.count() {
		return api.Ratio{}, api.ErrArg
	}
	last := s.row()[k-1]
	if s.Noise[last] == 0 {
		return api.Ratio{}, api.ErrNone
	}
	return ratio(s.Signal[last]*s.allNoise, s.allSignal*s.Noise[last]), api.OK
}

// Apart returns the greatest difference of signal and noise of any cut.
func Apart(o api.Odds) (api.Ratio, api.Errno) {
	p, err := at(o, api.Ratio{N: 1, D: 1})
	if err != api.OK {
		return api.Ratio{}, err
	}
	return ratio(p.total(p.dearest()), p.unit()), api.OK
}

// Best returns the cut with the greatest signal of all whose noise is at most a ratio,
// of several the one with the fewest outcomes, of these the one that comes first.
func Best(o api.Odds, noise api.Ratio) ([]int, api.Errno) {
	s, err := summed(o)
	if err != api.OK {
		return nil, err
	}
	if noise.D < 1 || noise.D > maxNoiseD || noise.N < 0 || noise.N > noise.D {
		return nil, api.ErrArg
	}
	var best []int
	for members := range 1 << s.count() {
		cut := cutOf(members)
		if kept(s.Noise, cut)*noise.D <= noise.N*s.allNoise && s.better(cut, best) < 0 {
			best = cut
		}
	}
	return best, api.OK
}

// cutOf returns the cut of the outcomes whose bits are set in a number.
func cutOf(members int) []int {
	var cut []int
	for a := 0; members>>a > 0; a++ {
		if members>>a&1 == 1 {
			cut = append(cut, a)
		}
	}
	return cut
}

// better compares two cuts, the one that Best prefers first.
func (o odds) better(c, d []int) int {
	return cmp.Or(
		cmp.Compare(kept(o.Signal, d), kept(o.Signal, c)),
		cmp.Compare(len(c), len(d)),
		slices.Compare(c, d),
	)
}
