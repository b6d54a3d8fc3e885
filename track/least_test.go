package track

import (
	"math/big"
	"slices"
	"testing"

	"firn/api"
)

// provedBy returns the sum of all W * Y, divided by M, of weights that are valid,
// and whether they are.
func provedBy(p []api.Point, weights []int, m int) (*big.Rat, bool) {
	total, turn, sum := 0, 0, 0
	if m < 1 || m > 10000 || len(weights) != len(p) {
		return nil, false
	}
	for n, w := range weights {
		if w < -m || w > m {
			return nil, false
		}
		total += w
		turn += w * p[n].X
		sum += w * p[n].Y
	}
	return ratio(sum, m), total == 0 && turn == 0
}

// holdLeast holds the least cost, a line with it and weights against what they
// are: no line can cost less than what weights prove.
func holdLeast(t *testing.T, p []api.Point) api.Ratio {
	t.Helper()
	least := sure[api.Ratio](t, "Least")(Least(p))
	x, err := Line(p)
	if err != api.OK || !ValidLine(x) || lowestTerms(costOf(p, x)) != least {
		t.Fatalf("Line(%v): %v, %d, with %v", p, x, err, least)
	}
	weights, m, err := Weights(p)
	proved, valid := provedBy(p, weights, m)
	if err != api.OK || !valid || lowestTerms(proved) != least {
		t.Fatalf("Weights(%v): %v, %d, %d, for %v", p, weights, m, err, least)
	}
	if is, err := Proves(p, weights, m, least); !is || err != api.OK {
		t.Fatalf("Proves(%v, %v, %d, %v): %v, %d", p, weights, m, least, is, err)
	}
	more := api.Ratio{N: 40*least.N + 1, D: 40 * least.D}
	if is, err := Proves(p, weights, m, more); is || err != api.OK {
		t.Fatalf("Proves(%v, %v, %d, %v): %v, %d", p, weights, m, more, is, err)
	}
	return least
}

// TestLeastByHand: P5.3 and the chapter's examples.
func TestLeastByHand(t *testing.T) {
	for _, c := range []struct {
		p    []api.Point
		want api.Ratio
	}{
		{first(), api.Ratio{N: 3, D: 2}},
		{second(), api.Ratio{N: 4, D: 1}},
		{points(0, 0, 1, 7), api.Ratio{N: 0, D: 1}},
		{points(-100, -1000, 100, 1000), api.Ratio{N: 0, D: 1}},
		{row(12), api.Ratio{N: 0, D: 1}},
		{points(0, 1, 1, 3, 2, 5, 3, 7, -4, -7, 2, 5), api.Ratio{N: 0, D: 1}},
		{points(0, 0, 0, 4, 0, 9, 5, 5), api.Ratio{N: 9, D: 1}},
		{points(0, 0, 0, 4, 5, 0, 5, 1), api.Ratio{N: 5, D: 1}},
		{points(0, 0, 1, 1, 2, 0), api.Ratio{N: 1, D: 1}},
		{points(0, 0, 1, 1, 2, 0, 1, 1), api.Ratio{N: 2, D: 1}},
		{points(0, 0, 1, 1, 2, 0, 1, 1, 1, 1), api.Ratio{N: 2, D: 1}}, // far from one of five
		{points(0, 0, 1, 0, 2, 0, 3, 1, 4, 0), api.Ratio{N: 1, D: 1}},
		{points(0, 0, 99, 0, 100, 3), api.Ratio{N: 297, D: 100}},
		{points(-100, 0, -1, 1, 98, 0, 99, 5), api.Ratio{N: 494, D: 99}},
		{corners(), api.Ratio{N: 12000, D: 1}},
	} {
		if least, err := Least(c.p); least != c.want || err != api.OK {
			t.Errorf("Least(%v): %v, %d, want %v", c.p, least, err, c.want)
		}
		holdLeast(t, c.p)
	}
}

// TestLeastOfAFew: P5.3, P5.7 and P5.10, all lists of up to 4 points of a small square.
func TestLeastOfAFew(t *testing.T) {
	smallPoints(func(p []api.Point) {
		holdLeast(t, p)
	})
}

// TestLeast: P5.3, P5.7 and P5.10, with lines that no one chose.
func TestLeast(t *testing.T) {
	manyPoints(11, 3000, func(p []api.Point, next func(int) int) {
		least := holdLeast(t, p)
		for range 10 {
			x := randomLine(p, next)
			if costOf(p, x).Cmp(ratio(least.N, least.D)) < 0 {
				t.Fatalf("Least(%v): %v, but %v", p, least, x)
			}
		}
		through := 0
		for a := range p {
			for b := range a {
				if x, err := Through(p[a], p[b]); err == api.OK && sure[api.Ratio](t, "Cost")(Cost(p, x)) == least {
					through++
				}
			}
		}
		if through == 0 {
			t.Fatalf("Least(%v): %v, but not through two points", p, least)
		}
	})
}

// TestMovedLeast: P5.9.
func TestMovedLeast(t *testing.T) {
	manyPoints(12, 1000, func(p []api.Point, next func(int) int) {
		least := sure[api.Ratio](t, "Least")(Least(p))
		narrowest := sure[api.Ratio](t, "Narrowest")(Narrowest(p))
		all := [][]api.Point{sure[[]api.Point](t, "Turned")(Turned(p))}
		if raised, err := Raised(p, next(9)-4, next(41)-20); err == api.OK {
			all = append(all, raised)
		}
		for _, q := range all {
			if l, err := Least(q); l != least || err != api.OK {
				t.Fatalf("Least(%v): %v, %d, of %v it is %v", q, l, err, p, least)
			}
			if n, err := Narrowest(q); n != narrowest || err != api.OK {
				t.Fatalf("Narrowest(%v): %v, %d, of %v it is %v", q, n, err, p, narrowest)
			}
		}
	})
}

// TestOnOneLine: P5.9, points on one line.
func TestOnOneLine(t *testing.T) {
	manyPoints(13, 500, func(p []api.Point, next func(int) int) {
		by, over, at := next(17)-8, 1+next(3), next(101)-50
		for n := range p {
			p[n].X = p[n].X / over * over
			p[n].Y = p[n].X/over*by + at
		}
		if !Valid(p) {
			return
		}
		least, a := Least(p)
		narrowest, b := Narrowest(p)
		slope, c := Slope(p)
		none := api.Ratio{N: 0, D: 1}
		if least != none || narrowest != none || slope != lowestTerms(ratio(by, over)) || a != api.OK || b != api.OK || c != api.OK {
			t.Fatalf("%v: %v, %v, %v, errors %d, %d, %d", p, least, narrowest, slope, a, b, c)
		}
		x := sure[api.Line](t, "Line")(Line(p))
		if on, err := On(p, x); len(on) != len(p) || err != api.OK {
			t.Fatalf("On(%v, %v): %v, %d", p, x, on, err)
		}
	})
}

// TestProvesByHand: P5.3.
func TestProvesByHand(t *testing.T) {
	for _, c := range []struct {
		p       []api.Point
		weights []int
		m       int
		cost    api.Ratio
		is      bool
	}{
		{first(), []int{1, -2, 1}, 2, api.Ratio{N: 3, D: 2}, true},
		{first(), []int{1, -2, 1}, 2, api.Ratio{N: 6, D: 4}, true},
		{first(), []int{1, -2, 1}, 2, api.Ratio{N: 0, D: 9}, true},
		{first(), []int{1, -2, 1}, 2, api.Ratio{N: 15000, D: 10000}, true},
		{first(), []int{1, -2, 1}, 2, api.Ratio{N: 14999, D: 10000}, true},
		{first(), []int{1, -2, 1}, 2, api.Ratio{N: 15001, D: 10000}, false},
		{first(), []int{1, -2, 1}, 3, api.Ratio{N: 1, D: 1}, true},
		{first(), []int{1, -2, 1}, 3, api.Ratio{N: 3, D: 2}, false},
		{first(), []int{5000, -10000, 5000}, 10000, api.Ratio{N: 3, D: 2}, true},
		{first(), []int{1, -2, 1}, 2, api.Ratio{N: 1000000000, D: 10000}, false},
		{first(), []int{1, -2, 1}, 10000, api.Ratio{N: 1000000000, D: 1}, false},
		{first(), []int{-1, 2, -1}, 2, api.Ratio{N: 0, D: 1}, false},   // -3/2
		{first(), []int{0, 0, 0}, 1, api.Ratio{N: 0, D: 1}, true},      // of no weight
		{first(), []int{0, 0, 0}, 1, api.Ratio{N: 1, D: 10000}, false}, // of no weight
		{first(), []int{0, -2, 2}, 2, api.Ratio{N: 0, D: 1}, false},    // the sum of W * X is 2
		{first(), []int{2, -2, 0}, 2, api.Ratio{N: 0, D: 1}, false},    // the sum of W * X is -2
		{first(), []int{2, -2, 1}, 2, api.Ratio{N: 0, D: 1}, false},    // the sum of W is 1
		{first(), []int{0, -2, 1}, 2, api.Ratio{N: 0, D: 1}, false},    // the sum of W is -1, that of W * X is 0
		{first(), []int{2, 0, 0}, 2, api.Ratio{N: 0, D: 1}, false},     // the sum of W is 2, that of W * X is 0
		{second(), []int{-1, 1, 0}, 1, api.Ratio{N: 4, D: 1}, true},    // what the second example costs
		{second(), []int{-1, 1, 0}, 1, api.Ratio{N: 40001, D: 10000}, false},
		{second(), []int{1, -1, 0}, 1, api.Ratio{N: 0, D: 1}, false},
		{corners(), slices.Repeat([]int{-10000, 10000, 10000, -10000}, 3), 10000, api.Ratio{N: 120000000, D: 10000}, true},
		{corners(), slices.Repeat([]int{-10000, 10000, 10000, -10000}, 3), 10000, api.Ratio{N: 120000001, D: 10000}, false},
		{corners(), slices.Repeat([]int{10000, -10000, -10000, 10000}, 3), 10000, api.Ratio{N: 0, D: 10000}, false},
	} {
		if is, err := Proves(c.p, c.weights, c.m, c.cost); is != c.is || err != api.OK {
			t.Errorf("Proves(%v, %v, %d, %v): %v, %d", c.p, c.weights, c.m, c.cost, is, err)
		}
	}
}

// allWeights calls look with all lists of n weights from -m to m.
func allWeights(n, m int, look func(weights []int)) {
	if n == 0 {
		look(nil)
		return
	}
	allWeights(n-1, m, func(weights []int) {
		for w := -m; w <= m; w++ {
			look(append(slices.Clone(weights), w))
		}
	})
}

// TestNoWeightsProveMore: P5.3 and P5.7, with all weights up to a small M.
func TestNoWeightsProveMore(t *testing.T) {
	manyPoints(14, 120, func(p []api.Point, next func(int) int) {
		p = p[:min(len(p), 4)]
		if !Valid(p) {
			return
		}
		least := sure[api.Ratio](t, "Least")(Least(p))
		some := api.Ratio{N: next(least.N+2) * 3, D: least.D * 3}
		m := 1 + next(3)
		allWeights(len(p), m, func(weights []int) {
			proved, valid := provedBy(p, weights, m)
			if valid && proved.Cmp(ratio(least.N, least.D)) > 0 {
				t.Fatalf("Least(%v): %v, but %v of %d", p, least, weights, m)
			}
			want := valid && proved.Cmp(ratio(some.N, some.D)) >= 0
			if is, err := Proves(p, weights, m, some); is != want || err != api.OK {
				t.Fatalf("Proves(%v, %v, %d, %v): %v, %d", p, weights, m, some, is, err)
			}
		})
	})
}

// TestErrorsOfProves: P5.1 and P5.3.
func TestErrorsOfProves(t *testing.T) {
	good := []int{1, -2, 1}
	cost := api.Ratio{N: 3, D: 2}
	hold := func(weights []int, m int, cost api.Ratio) {
		t.Helper()
		if is, err := Proves(first(), weights, m, cost); is || err != api.ErrArg {
			t.Errorf("Proves(%v, %d, %v): %v, %d", weights, m, cost, is, err)
		}
	}
	for _, weights := range [][]int{nil, {}, {1}, {1, -2}, {1, -2, 1, 0}, slices.Repeat([]int{0}, 1000), {1, -3, 2}, {1, -2, 3}, {-3, 0, 0}, {0, 0, 3}} {
		hold(weights, 2, cost)
	}
	hold([]int{0, 10001, -10001}, 10001, cost)
	hold([]int{0, 0, 0}, 10001, cost)
	hold(good, 0, cost)
	hold([]int{0, 0, 0}, 0, cost)
	hold([]int{0, 0, 0}, -1, cost)
	hold(good, 1, cost)
	hold(good, -2, cost)
	for _, c := range []api.Ratio{{}, {N: 3}, {N: 3, D: -2}, {N: -3, D: -2}, {N: -3, D: 2}, {N: -1, D: 1}, {N: 1, D: 10001}, {N: 1000000001, D: 1}} {
		hold(good, 2, c)
		hold([]int{2, 2, 2}, 2, c)
	}
	for _, n := range extremes {
		hold([]int{n, 0, 0}, 2, cost)
		hold([]int{0, 0, n}, 10000, cost)
		hold([]int{n, n, n}, n, cost)
		hold(good, n, cost)
		hold(good, 2, api.Ratio{N: n, D: 2})
		hold(good, 2, api.Ratio{N: 3, D: n})
		hold(good, 2, api.Ratio{N: n, D: n})
	}
}
