package track

import (
	"math/big"
	"slices"
	"testing"

	"firn/api"
)

// toldBy returns what a witness tells as the chapter defines it, and whether a
// list is a witness.
func toldBy(p []api.Point, l []int) (*big.Rat, bool) {
	for n, k := range l {
		if k < 0 || k >= len(p) || slices.Contains(l[:n], k) {
			return nil, false
		}
	}
	var gap *big.Rat
	switch {
	case len(l) == 2 && p[l[0]].X == p[l[1]].X:
		gap = ratio(p[l[0]].Y-p[l[1]].Y, 1)
	case len(l) == 3 && p[l[0]].X < p[l[1]].X && p[l[1]].X < p[l[2]].X:
		a, b, c := p[l[0]], p[l[1]], p[l[2]]
		rise := new(big.Rat).Mul(ratio(c.Y-a.Y, c.X-a.X), ratio(b.X-a.X, 1))
		gap = new(big.Rat).Sub(ratio(b.Y-a.Y, 1), rise)
	default:
		return nil, false
	}
	return new(big.Rat).Quo(absolute(gap), ratio(2, 1)), true
}

// allLists returns all lists of two and of three numbers from 0 to n - 1, those of
// two first, then index by index.
func allLists(n int) [][]int {
	var twos, threes [][]int
	for a := range n {
		for b := range n {
			twos = append(twos, []int{a, b})
			for c := range n {
				threes = append(threes, []int{a, b, c})
			}
		}
	}
	slices.SortFunc(threes, slices.Compare)
	return append(twos, threes...)
}

// holdNarrowest holds the least width, a line with it and its witness against all
// witnesses: no line can be narrower than what one of them tells.
func holdNarrowest(t *testing.T, p []api.Point) api.Ratio {
	t.Helper()
	narrowest := sure[api.Ratio](t, "Narrowest")(Narrowest(p))
	x, err := Axis(p)
	if err != api.OK || !ValidLine(x) || lowestTerms(widthOf(p, x)) != narrowest {
		t.Fatalf("Axis(%v): %v, %d, with %v", p, x, err, narrowest)
	}
	most := new(big.Rat)
	var first []int
	for _, l := range allLists(len(p)) {
		told, is := toldBy(p, l)
		if !is {
			continue
		}
		if first == nil || told.Cmp(most) > 0 {
			most, first = told, l
		}
	}
	witness, err := Witness(p)
	if lowestTerms(most) != narrowest || !slices.Equal(witness, first) || (err == api.OK) != (len(p) > 2) || err != api.OK && err != api.ErrNone {
		t.Fatalf("Witness(%v): %v, %d, for %v, want %v for %v", p, witness, err, narrowest, first, most)
	}
	if witness != nil {
		if told, err := Tells(p, witness); told != narrowest || err != api.OK {
			t.Fatalf("Tells(%v, %v): %v, %d, want %v", p, witness, told, err, narrowest)
		}
	}
	return narrowest
}

// TestNarrowestByHand: P5.4 and the chapter's examples.
func TestNarrowestByHand(t *testing.T) {
	for _, c := range []struct {
		p       []api.Point
		want    api.Ratio
		witness []int
	}{
		{first(), api.Ratio{N: 3, D: 4}, []int{0, 1, 2}},
		{second(), api.Ratio{N: 2, D: 1}, []int{0, 1}},
		{points(2, 3, 1, 0, 0, 0), api.Ratio{N: 3, D: 4}, []int{2, 1, 0}},
		{points(1, 0, 2, 3, 0, 0), api.Ratio{N: 3, D: 4}, []int{2, 0, 1}},
		{points(1, 1, 0, 4, 0, 0), api.Ratio{N: 2, D: 1}, []int{1, 2}},
		{points(0, 0, 1, 7), api.Ratio{N: 0, D: 1}, nil},
		{points(100, -1000, -100, 1000), api.Ratio{N: 0, D: 1}, nil},
		{row(12), api.Ratio{N: 0, D: 1}, []int{0, 1, 2}},
		{points(2, 2, 1, 1, 5, 5, 3, 3), api.Ratio{N: 0, D: 1}, []int{0, 3, 2}}, // in front of 1, 0, 2
		{points(2, 2, 5, 5, 2, 2), api.Ratio{N: 0, D: 1}, []int{0, 2}},          // equal points
		{points(2, 2, 5, 5, 2, 2, 2, 2), api.Ratio{N: 0, D: 1}, []int{0, 2}},
		{points(1, 1, 2, 2, 2, 2, 3, 3), api.Ratio{N: 0, D: 1}, []int{1, 2}}, // two before three
		{points(0, 0, 1, 2, 2, 0, 1, 0), api.Ratio{N: 1, D: 1}, []int{1, 3}}, // told by 0, 1, 2 too
		{points(0, 0, 1, 2, 2, 0, 1, 1), api.Ratio{N: 1, D: 1}, []int{0, 1, 2}},
		{points(0, 0, 2, 0, 1, 2, 3, 2), api.Ratio{N: 1, D: 1}, []int{0, 2, 1}}, // told by 2, 1, 3 too
		{points(3, 2, 2, 0, 1, 2, 0, 0), api.Ratio{N: 1, D: 1}, []int{2, 1, 0}},
		{corners(), api.Ratio{N: 1000, D: 1}, []int{0, 1}},
		{points(-100, 0, 99, 0, 100, 1), api.Ratio{N: 199, D: 400}, []int{0, 1, 2}},
	} {
		want := api.OK
		if c.witness == nil {
			want = api.ErrNone
		}
		if n, err := Narrowest(c.p); n != c.want || err != api.OK {
			t.Errorf("Narrowest(%v): %v, %d, want %v", c.p, n, err, c.want)
		}
		if l, err := Witness(c.p); !slices.Equal(l, c.witness) || err != want {
			t.Errorf("Witness(%v): %v, %d, want %v", c.p, l, err, c.witness)
		}
		holdNarrowest(t, c.p)
	}
}

// TestNarrowestOfAFew: P5.4 and P5.8, all lists of up to 4 points of a small square.
func TestNarrowestOfAFew(t *testing.T) {
	smallPoints(func(p []api.Point) {
		holdNarrowest(t, p)
	})
}

// TestNarrowest: P5.4 and P5.8, with lines that no one chose.
func TestNarrowest(t *testing.T) {
	manyPoints(21, 1500, func(p []api.Point, next func(int) int) {
		narrowest := holdNarrowest(t, p)
		for range 10 {
			x := randomLine(p, next)
			if widthOf(p, x).Cmp(ratio(narrowest.N, narrowest.D)) < 0 {
				t.Fatalf("Narrowest(%v): %v, but %v", p, narrowest, x)
			}
		}
		least := sure[api.Ratio](t, "Least")(Least(p))
		if narrowest.N*least.D > least.N*narrowest.D || least.N*narrowest.D > len(p)*narrowest.N*least.D {
			t.Fatalf("%v: Narrowest is %v, Least %v", p, narrowest, least)
		}
	})
}

// TestTellsByHand: P5.4.
func TestTellsByHand(t *testing.T) {
	p := points(0, 0, 0, 7, 1, 1, 3, -5, 0, 0, 2, 3)
	for _, c := range []struct {
		witness []int
		want    api.Ratio
	}{
		{[]int{0, 1}, api.Ratio{N: 7, D: 2}},
		{[]int{1, 0}, api.Ratio{N: 7, D: 2}},
		{[]int{0, 4}, api.Ratio{N: 0, D: 1}},
		{[]int{4, 0}, api.Ratio{N: 0, D: 1}},
		{[]int{0, 2, 3}, api.Ratio{N: 4, D: 3}},
		{[]int{4, 2, 3}, api.Ratio{N: 4, D: 3}},
		{[]int{1, 2, 3}, api.Ratio{N: 1, D: 1}},
		{[]int{2, 5, 3}, api.Ratio{N: 5, D: 2}},
		{[]int{0, 2, 5}, api.Ratio{N: 1, D: 4}},
	} {
		if told, err := Tells(p, c.witness); told != c.want || err != api.OK {
			t.Errorf("Tells(%v): %v, %d, want %v", c.witness, told, err, c.want)
		}
	}
	if told, err := Tells(points(-100, -1000, 99, 1000, 100, -1000, 99, -1000), []int{0, 1, 2}); told != (api.Ratio{N: 1000, D: 1}) || err != api.OK {
		t.Errorf("the most that can be told: %v, %d", told, err)
	}
}

// TestTells: P5.4, all lists.
func TestTells(t *testing.T) {
	manyPoints(22, 100, func(p []api.Point, next func(int) int) {
		for _, l := range allLists(len(p)) {
			want, is := toldBy(p, l)
			told, err := Tells(p, l)
			if is && (told != lowestTerms(want) || err != api.OK) || !is && (told != (api.Ratio{}) || err != api.ErrArg) {
				t.Fatalf("Tells(%v, %v): %v, %d, want %v", p, l, told, err, want)
			}
		}
	})
}

// TestErrorsOfTells: P5.1 and P5.4.
func TestErrorsOfTells(t *testing.T) {
	p := points(0, 0, 0, 7, 1, 1, 3, -5, 0, 0)
	bad := [][]int{
		nil, {}, {0}, {2}, {0, 2}, {0, 0}, {3, 3}, {0, 1, 4}, {0, 1, 2}, {0, 0, 2}, {0, 2, 2}, {3, 2, 0}, {0, 3, 2}, {2, 0, 3},
		{0, 5}, {5, 0}, {-1, 0}, {0, -1}, {0, 2, 5}, {-1, 2, 3}, {0, -1, 3}, {0, 2, 3, 3}, {0, 1, 2, 3}, {0, 1, 4, 0}, slices.Repeat([]int{0, 1}, 500),
	}
	for _, n := range extremes {
		bad = append(bad, []int{n, 0}, []int{0, n}, []int{n, n}, []int{0, n, 3}, []int{n, 2, 3}, []int{0, 2, n}, []int{n})
	}
	for _, l := range bad {
		if told, err := Tells(p, l); told != (api.Ratio{}) || err != api.ErrArg {
			t.Errorf("Tells(%v): %v, %d", l, told, err)
		}
	}
	// Of two points alone there is no witness at all.
	for _, l := range [][]int{{0, 1}, {1, 0}, {0, 1, 1}, {0, 0, 1}} {
		if told, err := Tells(row(2), l); told != (api.Ratio{}) || err != api.ErrArg {
			t.Errorf("Tells(%v) of two points: %v, %d", l, told, err)
		}
	}
}
