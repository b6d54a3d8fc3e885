package weigh

import (
	"math/big"
	"slices"
	"testing"

	"firn/api"
)

// prices are some that are near to ratios of outcomes, or at the limits.
func prices(o api.Odds, next func(int) int) []api.Ratio {
	l := []api.Ratio{
		{N: 0, D: 1}, {N: 1, D: 1}, {N: 3, D: 3}, {N: 0, D: 10000000}, {N: 1, D: 10000000}, {N: 1000000000, D: 1}, {N: 1000000000, D: 10000000},
		{N: next(1000000001), D: 1 + next(10000000)}, {N: next(100), D: 1 + next(100)}, {N: 999999999, D: 9999999},
	}
	for a := range o.Noise {
		n, d := o.Signal[a]*total(o.Noise), o.Noise[a]*total(o.Signal)
		if d > 0 {
			l = append(l, api.Ratio{N: n, D: d}, api.Ratio{N: n + 1, D: d}, api.Ratio{N: max(n-1, 0), D: d})
		}
	}
	return l
}

// choose returns the cut that has the greatest worth, of several the one with the
// fewest outcomes, of these the one that comes first. A nil worth is none.
func choose(cuts [][]int, worth func(cut []int) *big.Rat) []int {
	var best []int
	var most *big.Rat
	for _, cut := range cuts {
		w := worth(cut)
		if w == nil {
			continue
		}
		better := most == nil || w.Cmp(most) > 0
		if !better && w.Cmp(most) == 0 {
			better = len(cut) < len(best) || len(cut) == len(best) && slices.Compare(cut, best) < 0
		}
		if better {
			best, most = cut, w
		}
	}
	return best
}

// TestBestByHand: P7.3.
func TestBestByHand(t *testing.T) {
	alike := of(1, 1, 1, 1, 1, 1, 1, 1)
	for _, c := range []struct {
		o    api.Odds
		n, d int
		want []int
	}{
		{example(), 1, 4, []int{0}}, {example(), 1, 2, []int{0, 2}}, {example(), 3, 4, []int{0, 2}},
		{example(), 0, 1, nil}, {example(), 1, 1, []int{0, 2}}, {example(), 249999, 1000000, nil},
		{example(), 250000, 1000000, []int{0}}, {example(), 499999, 1000000, []int{0}}, {example(), 2, 4, []int{0, 2}},
		{alike, 1, 4, []int{0}}, {alike, 1, 2, []int{0, 1}}, {alike, 2, 3, []int{0, 1}}, {alike, 3, 4, []int{0, 1, 2}},
		// Without noise they are kept for nothing, without signal they never are.
		{of(0, 1, 1, 0, 0, 1, 1, 1), 0, 1, []int{0, 2}}, {of(1, 0, 0, 0, 1, 1), 1, 1, []int{2}},
		// The best is no cut of any k.
		{of(3, 5, 2, 3, 2, 3), 4, 7, []int{1, 2}}, {of(2, 3, 3, 5, 2, 3), 3, 7, []int{1}},
		// Of as much signal the fewest outcomes, of as many the first ones.
		{of(1, 1, 1, 1, 5, 2, 1, 9), 1, 8, []int{3}}, {of(1, 1, 1, 1, 2, 2, 9, 0), 2, 13, []int{2}},
		{of(1, 1, 2, 3, 3, 2, 2, 4), 5, 8, []int{0, 1, 3}}, {of(1, 2, 1, 3, 1, 3, 1, 4), 1, 2, []int{1, 3}},
		{of(1, 1, 1, 4, 1, 2, 1, 3), 1, 2, []int{1, 3}}, {of(1, 3, 1, 1, 1, 2, 1, 4, 4, 0), 1, 8, []int{3}},
		{of(2, 3, 1, 2, 1, 2, 2, 1), 1, 2, []int{0, 1}}, {of(1, 2, 2, 3, 1, 2, 3, 3), 3, 7, []int{0, 1}},
		{of(1, 3, 1, 2, 1, 1, 1, 2, 4, 0), 1, 4, []int{0, 1}}, {of(1, 1, 1, 4, 1, 3, 1, 2, 4, 0), 1, 4, []int{1, 2}},
		{of(1, 4, 1, 1, 1, 3, 1, 2, 4, 0), 1, 8, []int{0}},
		// 0, 3 has as much as 1, 2.
		{of(3, 4, 2, 3, 2, 2, 1, 1, 8, 0), 4, 16, []int{0, 3}},
	} {
		if cut, err := Best(c.o, api.Ratio{N: c.n, D: c.d}); !slices.Equal(cut, c.want) || err != api.OK {
			t.Errorf("Best(%v, %d/%d): %v, %d, want %v", c.o, c.n, c.d, cut, err, c.want)
		}
	}
}

// holdBest holds Best against all cuts.
func holdBest(t *testing.T, o api.Odds, noise api.Ratio) {
	t.Helper()
	most := fraction(noise.N, noise.D)
	want := choose(cutsOf(len(o.Noise)), func(cut []int) *big.Rat {
		if share(o.Noise, cut).Cmp(most) > 0 {
			return nil
		}
		return share(o.Signal, cut)
	})
	if cut, err := Best(o, noise); !slices.Equal(cut, want) || err != api.OK {
		t.Fatalf("Best(%v, %v): %v, %d, want %v", o, noise, cut, err, want)
	}
}

// TestBest: P7.3 and P7.7.
func TestBest(t *testing.T) {
	smallOdds(func(o api.Odds) {
		for d := 1; d <= 6; d++ {
			for n := range d + 1 {
				holdBest(t, o, api.Ratio{N: n, D: d})
			}
		}
	})
	manyOdds(21, 150, func(o api.Odds, next func(int) int) {
		d := 1 + next(1000000)
		holdBest(t, o, api.Ratio{N: next(d + 1), D: d})
		holdBest(t, o, api.Ratio{N: next(1000001), D: 1000000})
		holdBest(t, o, api.Ratio{N: 3 * next(total(o.Noise)+1), D: 3 * total(o.Noise)})
	})
}

// TestErrorsOfBest: P7.1 and P7.3.
func TestErrorsOfBest(t *testing.T) {
	bad := []api.Ratio{{}, {N: 1}, {N: 2, D: 1}, {N: -1, D: 1}, {N: -1, D: -1}, {N: 1, D: -1}, {N: 0, D: -1}, {N: 0, D: 1000001}, {N: 1, D: 1000001}, {N: 1000001, D: 1000000}}
	for _, x := range extremes {
		bad = append(bad, api.Ratio{N: x, D: 1}, api.Ratio{N: 0, D: x}, api.Ratio{N: 1, D: x}, api.Ratio{N: x, D: x}, api.Ratio{N: x, D: 1000000})
	}
	for _, o := range []api.Odds{example(), heavy(), of(1, 1)} {
		for _, noise := range bad {
			if cut, err := Best(o, noise); len(cut) > 0 || err != api.ErrArg {
				t.Errorf("Best(%v, %v): %v, %d", o, noise, cut, err)
			}
		}
		for _, noise := range []api.Ratio{{N: 0, D: 1}, {N: 0, D: 1000000}, {N: 1000000, D: 1000000}, {N: 1, D: 1}} {
			if cut, err := Best(o, noise); err != api.OK || noise.N > 0 == (len(cut) == 0) {
				t.Errorf("Best(%v, %v): %v, %d", o, noise, cut, err)
			}
		}
	}
}

// TestGainByHand: P7.4.
func TestGainByHand(t *testing.T) {
	for _, c := range []struct {
		cut     []int
		price   api.Ratio
		gain    api.Ratio
		proves  bool
		dearest []int
	}{
		{nil, api.Ratio{N: 1, D: 1}, api.Ratio{N: 0, D: 1}, false, []int{0}},
		{[]int{0}, api.Ratio{N: 1, D: 1}, api.Ratio{N: 1, D: 2}, true, []int{0}},
		// The third outcome has a gain of 0 at the price 1: with it as much is gained.
		{[]int{0, 2}, api.Ratio{N: 2, D: 2}, api.Ratio{N: 1, D: 2}, true, []int{0}},
		{[]int{2}, api.Ratio{N: 1, D: 1}, api.Ratio{N: 0, D: 1}, false, []int{0}},
		{[]int{0, 1}, api.Ratio{N: 1, D: 1}, api.Ratio{N: 0, D: 1}, false, []int{0}},
		{[]int{1}, api.Ratio{N: 1, D: 1}, api.Ratio{N: -1, D: 2}, false, []int{0}},
		{[]int{0, 1, 2}, api.Ratio{N: 1, D: 2}, api.Ratio{N: 1, D: 2}, false, []int{0, 2}},
		{[]int{0, 2}, api.Ratio{N: 1, D: 2}, api.Ratio{N: 3, D: 4}, true, []int{0, 2}},
		{[]int{0, 1, 2}, api.Ratio{N: 0, D: 5}, api.Ratio{N: 1, D: 1}, true, []int{0, 2}},
		{nil, api.Ratio{N: 3, D: 1}, api.Ratio{N: 0, D: 1}, true, nil},
		{[]int{0}, api.Ratio{N: 3, D: 1}, api.Ratio{N: 0, D: 1}, true, nil},
		{[]int{0, 2}, api.Ratio{N: 3, D: 1}, api.Ratio{N: -1, D: 2}, false, nil},
		{[]int{0, 1, 2}, api.Ratio{N: 1000000000, D: 1}, api.Ratio{N: -999999999, D: 1}, false, nil},
		{[]int{1}, api.Ratio{N: 1, D: 10000000}, api.Ratio{N: -1, D: 20000000}, false, []int{0, 2}},
	} {
		o := example()
		if gain, err := Gain(o, c.cut, c.price); gain != c.gain || err != api.OK {
			t.Errorf("Gain(%v, %v): %v, %d, want %v", c.cut, c.price, gain, err, c.gain)
		}
		if proves, err := Proves(o, c.cut, c.price); proves != c.proves || err != api.OK {
			t.Errorf("Proves(%v, %v): %v, %d", c.cut, c.price, proves, err)
		}
		if cut, err := Dearest(o, c.price); !slices.Equal(cut, c.dearest) || err != api.OK {
			t.Errorf("Dearest(%v): %v, %d, want %v", c.price, cut, err, c.dearest)
		}
	}
}

// holdPrice holds what is told at a price against all cuts.
func holdPrice(t *testing.T, o api.Odds, price api.Ratio) {
	t.Helper()
	exact := fraction(price.N, price.D)
	cuts := cutsOf(len(o.Noise))
	best := choose(cuts, func(cut []int) *big.Rat { return gainOf(o, cut, exact) })
	most := gainOf(o, best, exact)
	if cut, err := Dearest(o, price); !slices.Equal(cut, best) || err != api.OK {
		t.Fatalf("Dearest(%v, %v): %v, %d, want %v", o, price, cut, err, best)
	}
	for _, cut := range cuts {
		gain := gainOf(o, cut, exact)
		if g, err := Gain(o, cut, price); g != lowest(gain) || err != api.OK {
			t.Fatalf("Gain(%v, %v, %v): %v, %d, want %v", o, cut, price, g, err, gain)
		}
		if p, err := Proves(o, cut, price); p != (gain.Cmp(most) == 0) || err != api.OK {
			t.Fatalf("Proves(%v, %v, %v): %v, %d", o, cut, price, p, err)
		}
	}
}

// TestGains: P7.1 and P7.4, all cuts.
func TestGains(t *testing.T) {
	smallOdds(func(o api.Odds) {
		for _, price := range []api.Ratio{{N: 0, D: 1}, {N: 1, D: 2}, {N: 2, D: 2}, {N: 4, D: 3}, {N: 9, D: 1}} {
			holdPrice(t, o, price)
		}
	})
	manyOdds(22, 100, func(o api.Odds, next func(int) int) {
		l := prices(o, next)
		for range 4 {
			holdPrice(t, o, l[next(len(l))])
		}
	})
	for _, o := range []api.Odds{heavy(), steep(), of(1000, 1, 1000, 1000), of(1, 1000, 1000, 1000)} {
		for _, price := range []api.Ratio{{N: 1000000000, D: 10000000}, {N: 1000000000, D: 9999999}, {N: 1000000000, D: 1}, {N: 999999999, D: 10000000}, {N: 9999999, D: 10000000}} {
			holdPrice(t, o, price)
		}
	}
}

// TestErrorsOfPrices: P7.1 and P7.4.
func TestErrorsOfPrices(t *testing.T) {
	bad := []api.Ratio{{}, {N: 1}, {N: -1, D: 1}, {N: 1, D: -1}, {N: -1, D: -1}, {N: 0, D: 10000001}, {N: 1000000001, D: 1}, {N: 1000000001, D: 10000000}, {N: 5, D: 10000001}}
	for _, x := range extremes {
		bad = append(bad, api.Ratio{N: x, D: 1}, api.Ratio{N: 1, D: x}, api.Ratio{N: x, D: x})
	}
	for _, o := range []api.Odds{example(), heavy(), of(1, 1)} {
		for _, price := range bad {
			if g, err := Gain(o, []int{0}, price); g != (api.Ratio{}) || err != api.ErrArg {
				t.Errorf("Gain(%v, %v): %v, %d", o, price, g, err)
			}
			if cut, err := Dearest(o, price); len(cut) > 0 || err != api.ErrArg {
				t.Errorf("Dearest(%v, %v): %v, %d", o, price, cut, err)
			}
			if p, err := Proves(o, nil, price); p || err != api.ErrArg {
				t.Errorf("Proves(%v, %v): %v, %d", o, price, p, err)
			}
		}
	}
}

// TestPriceByHand: P7.1 and P7.4.
func TestPriceByHand(t *testing.T) {
	for _, c := range []struct {
		o    api.Odds
		k    int
		want api.Ratio
		err  api.Errno
	}{
		{example(), 1, api.Ratio{N: 3, D: 1}, api.OK}, {example(), 2, api.Ratio{N: 1, D: 1}, api.OK}, {example(), 3, api.Ratio{N: 0, D: 1}, api.OK},
		{example(), 0, api.Ratio{}, api.ErrArg}, {example(), 4, api.Ratio{}, api.ErrArg}, {example(), -1, api.Ratio{}, api.ErrArg},
		{of(5, 9), 1, api.Ratio{N: 1, D: 1}, api.OK}, {of(5, 9), 0, api.Ratio{}, api.ErrArg}, {of(5, 9), 2, api.Ratio{}, api.ErrArg},
		// Signal without noise has no price, nor have outcomes with neither.
		{of(0, 1, 2, 3), 1, api.Ratio{}, api.ErrNone}, {of(0, 1, 2, 3), 2, api.Ratio{N: 3, D: 4}, api.OK},
		{of(0, 0, 2, 3), 1, api.Ratio{N: 1, D: 1}, api.OK}, {of(0, 0, 2, 3), 2, api.Ratio{}, api.ErrNone}, {of(0, 0, 2, 3), 3, api.Ratio{}, api.ErrArg},
		// The last one of the row's first k outcomes is not the greatest of the cut.
		{of(6, 1, 2, 5), 2, api.Ratio{N: 2, D: 9}, api.OK}, {of(6, 1, 2, 5), 1, api.Ratio{N: 10, D: 3}, api.OK},
		{of(1, 1000, 999, 0), 1, api.Ratio{N: 1000, D: 1}, api.OK},
		{of(append(slices.Repeat([]int{1000, 0}, 9), 1, 1000)...), 1, api.Ratio{N: 9001, D: 1}, api.OK},
		{of(append(slices.Repeat([]int{0, 1000}, 9), 1000, 1)...), 10, api.Ratio{N: 1, D: 9001}, api.OK},
	} {
		if p, err := Price(c.o, c.k); p != c.want || err != c.err {
			t.Errorf("Price(%v, %d): %v, %d, want %v, %d", c.o, c.k, p, err, c.want, c.err)
		}
	}
	for _, k := range extremes {
		if p, err := Price(of(0, 1, 2, 3), k); p != (api.Ratio{}) || err != api.ErrArg {
			t.Errorf("Price of %d: %v, %d", k, p, err)
		}
	}
}

// holdPrices holds the prices of all k against the chapter's words, and against the
// consequence that they prove the cuts of k.
func holdPrices(t *testing.T, o api.Odds) {
	t.Helper()
	cuts := cutsOf(len(o.Noise))
	for k, last := range rowOf(o) {
		price, err := Price(o, k+1)
		if o.Noise[last] == 0 {
			if price != (api.Ratio{}) || err != api.ErrNone {
				t.Fatalf("Price(%v, %d): %v, %d", o, k+1, price, err)
			}
			continue
		}
		one := []int{last}
		want := new(big.Rat).Quo(share(o.Signal, one), share(o.Noise, one))
		if price != lowest(want) || err != api.OK {
			t.Fatalf("Price(%v, %d): %v, %d, want %v", o, k+1, price, err, want)
		}
		cut := sure[[]int](t, "Cut")(Cut(o, k+1))
		if !sure[bool](t, "Proves")(Proves(o, cut, price)) {
			t.Fatalf("Price(%v, %d) does not prove the cut", o, k+1)
		}
		holdBound(t, o, cut, cuts)
	}
}

// holdBound checks that no cut with at most the noise of a cut has a greater signal.
func holdBound(t *testing.T, o api.Odds, cut []int, cuts [][]int) {
	t.Helper()
	noise, signal := share(o.Noise, cut), share(o.Signal, cut)
	for _, other := range cuts {
		if share(o.Noise, other).Cmp(noise) <= 0 && share(o.Signal, other).Cmp(signal) > 0 {
			t.Fatalf("%v: the cut %v is better than %v", o, other, cut)
		}
	}
}

// TestPrice: P7.4 and P7.7.
func TestPrice(t *testing.T) {
	smallOdds(func(o api.Odds) { holdPrices(t, o) })
	manyOdds(23, 100, func(o api.Odds, _ func(int) int) { holdPrices(t, o) })
}

// TestProofs: P7.7, whatever a price proves has the greatest signal.
func TestProofs(t *testing.T) {
	proofs := 0
	manyOdds(24, 60, func(o api.Odds, next func(int) int) {
		cuts := cutsOf(len(o.Noise))
		for _, price := range prices(o, next)[:10] {
			for range 20 {
				cut := cuts[next(len(cuts))]
				if sure[bool](t, "Proves")(Proves(o, cut, price)) {
					proofs++
					holdBound(t, o, cut, cuts)
				}
			}
		}
	})
	if proofs < 100 {
		t.Errorf("%d proofs", proofs)
	}
}

// holdApart holds Apart against all cuts and against the chapter's consequences.
func holdApart(t *testing.T, o api.Odds) {
	t.Helper()
	one := api.Ratio{N: 1, D: 1}
	most, sum := new(big.Rat), new(big.Rat)
	for _, cut := range cutsOf(len(o.Noise)) {
		if g := gainOf(o, cut, fraction(1, 1)); g.Cmp(most) > 0 {
			most = g
		}
	}
	for a := range o.Noise {
		g := gainOf(o, []int{a}, fraction(1, 1))
		sum.Add(sum, g.Abs(g))
	}
	apart, err := Apart(o)
	if apart != lowest(most) || err != api.OK || most.Cmp(sum.Mul(sum, fraction(1, 2))) != 0 {
		t.Fatalf("Apart(%v): %v, %d, want %v, %v", o, apart, err, most, sum)
	}
	dearest := sure[[]int](t, "Dearest")(Dearest(o, one))
	if g, err := Gain(o, dearest, one); g != apart || err != api.OK {
		t.Fatalf("Apart(%v): %v, the gain of Dearest %v, %d", o, apart, g, err)
	}
	s := sure[api.Odds](t, "Swapped")(Swapped(o))
	if other, err := Apart(s); other != apart || err != api.OK {
		t.Fatalf("Apart(%v): %v, of Swapped %v, %d", o, apart, other, err)
	}
}

// TestApart: P7.5 and P7.9.
func TestApart(t *testing.T) {
	smallOdds(func(o api.Odds) { holdApart(t, o) })
	manyOdds(25, 200, func(o api.Odds, _ func(int) int) { holdApart(t, o) })
}
