package weigh

import (
	"math/big"
	"slices"
	"testing"

	"firn/api"
)

// TestRowByHand: P7.3.
func TestRowByHand(t *testing.T) {
	for _, c := range []struct {
		o    api.Odds
		want []int
	}{
		{example(), []int{0, 2, 1}},
		{of(1, 1), []int{0}},
		{of(1, 1, 1, 1, 1, 1), []int{0, 1, 2}},
		// Those of one ratio come by their indexes, whatever their weights are.
		{of(4, 6, 2, 3, 6, 9), []int{0, 1, 2}},
		{of(4, 6, 1, 3, 2, 3, 3, 9), []int{1, 3, 0, 2}},
		// Those without noise are first, by their indexes; those without signal last.
		{of(0, 1, 1, 0), []int{0, 1}}, {of(1, 0, 0, 1), []int{1, 0}},
		{of(1, 1000, 0, 1, 0, 7, 5, 0, 1, 0, 1000, 1), []int{1, 2, 0, 5, 3, 4}},
		// Those with neither are behind all others, also behind those without signal.
		{of(0, 0, 1, 1), []int{1, 0}}, {of(1, 1, 0, 0), []int{0, 1}},
		{of(0, 0, 5, 0, 0, 0, 0, 5, 0, 0, 1, 1), []int{3, 5, 1, 0, 2, 4}},
		{of(1, 0, 0, 0, 2, 1, 0, 0, 1, 2), []int{4, 2, 0, 1, 3}},
		{of(999, 998, 1000, 999, 1000, 1000, 998, 999), []int{3, 2, 1, 0}},
	} {
		if row, err := Row(c.o); !slices.Equal(row, c.want) || err != api.OK {
			t.Errorf("Row(%v): %v, %d, want %v", c.o, row, err, c.want)
		}
	}
}

// rowOf returns the row: always the first of those outcomes that are left before
// which none of the others comes, those with both weights 0 when no other is left.
func rowOf(o api.Odds) []int {
	var full, empty, row []int
	for a := range o.Noise {
		if o.Noise[a]+o.Signal[a] > 0 {
			full = append(full, a)
		} else {
			empty = append(empty, a)
		}
	}
	for len(full) > 0 {
		next := slices.IndexFunc(full, func(a int) bool {
			return !slices.ContainsFunc(full, func(b int) bool { return comesBefore(o, b, a) })
		})
		row = append(row, full[next])
		full = slices.Delete(full, next, next+1)
	}
	return append(row, empty...)
}

// holdRow holds the row and the cuts of all k against the chapter's words.
func holdRow(t *testing.T, o api.Odds) {
	t.Helper()
	want := rowOf(o)
	if row, err := Row(o); !slices.Equal(row, want) || err != api.OK {
		t.Fatalf("Row(%v): %v, %d, want %v", o, row, err, want)
	}
	for k := range len(want) + 1 {
		first := slices.Sorted(slices.Values(want[:k]))
		if cut, err := Cut(o, k); !slices.Equal(cut, first) || err != api.OK {
			t.Fatalf("Cut(%v, %d): %v, %d, want %v", o, k, cut, err, first)
		}
	}
}

// TestRow: P7.3.
func TestRow(t *testing.T) {
	smallOdds(func(o api.Odds) { holdRow(t, o) })
	manyOdds(11, 3000, func(o api.Odds, _ func(int) int) { holdRow(t, o) })
}

// TestErrorsOfCut: P7.1 and P7.3.
func TestErrorsOfCut(t *testing.T) {
	for _, o := range []api.Odds{example(), of(1, 1), heavy()} {
		n := len(o.Noise)
		for _, k := range append([]int{n + 1, n + 2, -2}, extremes...) {
			if cut, err := Cut(o, k); len(cut) > 0 || err != api.ErrArg {
				t.Errorf("Cut(%v, %d): %v, %d", o, k, cut, err)
			}
		}
	}
}

// curveByHand has ratios by their numerators and denominators.
func curveByHand(n ...int) [][2]api.Ratio {
	var l [][2]api.Ratio
	for ; len(n) > 0; n = n[4:] {
		l = append(l, [2]api.Ratio{{N: n[0], D: n[1]}, {N: n[2], D: n[3]}})
	}
	return l
}

// TestCurveByHand: P7.5.
func TestCurveByHand(t *testing.T) {
	for _, c := range []struct {
		o           api.Odds
		curve       [][2]api.Ratio
		area, apart api.Ratio
	}{
		{example(), curveByHand(0, 1, 0, 1, 1, 4, 3, 4, 1, 2, 1, 1, 1, 1, 1, 1), api.Ratio{N: 13, D: 16}, api.Ratio{N: 1, D: 2}},
		{of(7, 3), curveByHand(0, 1, 0, 1, 1, 1, 1, 1), api.Ratio{N: 1, D: 2}, api.Ratio{N: 0, D: 1}},
		{of(1, 0, 0, 1), curveByHand(0, 1, 0, 1, 0, 1, 1, 1, 1, 1, 1, 1), api.Ratio{N: 1, D: 1}, api.Ratio{N: 1, D: 1}},
		{of(0, 0, 2, 4), curveByHand(0, 1, 0, 1, 1, 1, 1, 1, 1, 1, 1, 1), api.Ratio{N: 1, D: 2}, api.Ratio{N: 0, D: 1}},
		{of(1, 2, 2, 4), curveByHand(0, 1, 0, 1, 1, 3, 1, 3, 1, 1, 1, 1), api.Ratio{N: 1, D: 2}, api.Ratio{N: 0, D: 1}},
		// 1/3 * 1/4 + 2/3 * 3/4 = 7/12
		{of(2, 1, 1, 1), curveByHand(0, 1, 0, 1, 1, 3, 1, 2, 1, 1, 1, 1), api.Ratio{N: 7, D: 12}, api.Ratio{N: 1, D: 6}},
	} {
		if curve, err := Curve(c.o); !slices.Equal(curve, c.curve) || err != api.OK {
			t.Errorf("Curve(%v): %v, %d, want %v", c.o, curve, err, c.curve)
		}
		if area, err := Area(c.o); area != c.area || err != api.OK {
			t.Errorf("Area(%v): %v, %d, want %v", c.o, area, err, c.area)
		}
		if pairs, err := Pairs(c.o); pairs != c.area || err != api.OK {
			t.Errorf("Pairs(%v): %v, %d, want %v", c.o, pairs, err, c.area)
		}
		if apart, err := Apart(c.o); apart != c.apart || err != api.OK {
			t.Errorf("Apart(%v): %v, %d, want %v", c.o, apart, err, c.apart)
		}
	}
}

// areaOf returns the area under the curve of odds, and their curve.
func areaOf(o api.Odds) (*big.Rat, [][2]api.Ratio) {
	row := rowOf(o)
	area, half := new(big.Rat), fraction(1, 2)
	x, y := new(big.Rat), new(big.Rat)
	curve := [][2]api.Ratio{{lowest(x), lowest(y)}}
	for k := range row {
		nextX, nextY := share(o.Noise, row[:k+1]), share(o.Signal, row[:k+1])
		wide, high := new(big.Rat).Sub(nextX, x), new(big.Rat).Add(nextY, y)
		area.Add(area, wide.Mul(wide, high.Mul(high, half)))
		x, y = nextX, nextY
		curve = append(curve, [2]api.Ratio{lowest(x), lowest(y)})
	}
	return area, curve
}

// pairsOf returns the sum over all pairs.
func pairsOf(o api.Odds) *big.Rat {
	all := new(big.Rat)
	for a := range o.Noise {
		for b := range o.Noise {
			p := new(big.Rat).Mul(share(o.Signal, []int{a}), share(o.Noise, []int{b}))
			switch {
			case comesBefore(o, a, b):
				all.Add(all, p)
			case !comesBefore(o, b, a):
				all.Add(all, p.Mul(p, fraction(1, 2)))
			}
		}
	}
	return all
}

// holdCurve holds the curve, the area and the pairs of odds against the chapter's words
// and consequences.
func holdCurve(t *testing.T, o api.Odds) {
	t.Helper()
	area, curve := areaOf(o)
	if got, err := Curve(o); !slices.Equal(got, curve) || err != api.OK {
		t.Fatalf("Curve(%v): %v, %d, want %v", o, got, err, curve)
	}
	if got, err := Area(o); got != lowest(area) || err != api.OK {
		t.Fatalf("Area(%v): %v, %d, want %v", o, got, err, area)
	}
	if got, err := Pairs(o); got != lowest(pairsOf(o)) || err != api.OK {
		t.Fatalf("Pairs(%v): %v, %d, want %v", o, got, err, pairsOf(o))
	}
	if area.Cmp(pairsOf(o)) != 0 || area.Cmp(fraction(1, 2)) < 0 || area.Cmp(fraction(1, 1)) > 0 {
		t.Fatalf("%v: the area %v, the pairs %v", o, area, pairsOf(o))
	}
	s := sure[api.Odds](t, "Swapped")(Swapped(o))
	if got, err := Area(s); got != lowest(area) || err != api.OK {
		t.Fatalf("Area of Swapped(%v): %v, %d, want %v", o, got, err, area)
	}
}

// TestCurve: P7.1, P7.5 and P7.8.
func TestCurve(t *testing.T) {
	smallOdds(func(o api.Odds) { holdCurve(t, o) })
	manyOdds(12, 1000, func(o api.Odds, _ func(int) int) { holdCurve(t, o) })
}

// compare compares two ratios.
func compare(x, y api.Ratio) int {
	return fraction(x.N, x.D).Cmp(fraction(y.N, y.D))
}

// known has what merges make no greater, and two observations no less.
func known(t *testing.T, o api.Odds) [2]api.Ratio {
	t.Helper()
	return [2]api.Ratio{sure[api.Ratio](t, "Area")(Area(o)), sure[api.Ratio](t, "Apart")(Apart(o))}
}

// TestMerges: P7.10.
func TestMerges(t *testing.T) {
	held := 0
	manyOdds(13, 300, func(o api.Odds, next func(int) int) {
		noise := api.Ratio{D: 1 + next(30)}
		noise.N = next(noise.D + 1)
		all, signal := known(t, o), bestSignal(t, o, noise)
		for b := range o.Noise {
			for a := range b {
				m := sure[api.Odds](t, "Merged")(Merged(o, a, b))
				if !Valid(m) {
					continue
				}
				held++
				less := known(t, m)
				if compare(less[0], all[0]) > 0 || compare(less[1], all[1]) > 0 {
					t.Fatalf("%v: Area and Apart are %v, of Merged(%d, %d) %v", o, all, a, b, less)
				}
				if s := bestSignal(t, m, noise); compare(s, signal) > 0 {
					t.Fatalf("%v: the signal of Best(%v) is %v, of Merged(%d, %d) %v", o, noise, signal, a, b, s)
				}
			}
		}
	})
	if held < 1000 {
		t.Errorf("%d merges are odds", held)
	}
}

// bestSignal returns the signal of Best.
func bestSignal(t *testing.T, o api.Odds, noise api.Ratio) api.Ratio {
	t.Helper()
	return sure[api.Ratio](t, "Signal")(Signal(o, sure[[]int](t, "Best")(Best(o, noise))))
}

// TestTwoObservations: P7.10.
func TestTwoObservations(t *testing.T) {
	held := 0
	manyOdds(14, 2000, func(o api.Odds, next func(int) int) {
		p := randomOdds(next, 1+next(5), []int{1, 3, 20}[next(3)])
		both, err := Both(o, p)
		if err != api.OK {
			return
		}
		held++
		all := known(t, both)
		for _, one := range []api.Odds{o, p} {
			if less := known(t, one); compare(less[0], all[0]) > 0 || compare(less[1], all[1]) > 0 {
				t.Fatalf("Both(%v, %v): Area and Apart are %v, of one %v", o, p, all, less)
			}
		}
	})
	if held < 500 {
		t.Errorf("%d pairs of odds are odds", held)
	}
}
