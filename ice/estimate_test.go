package ice

import (
	"slices"
	"testing"

	"firn/api"
)

// TestEstimatesByHand: P4.8.
func TestEstimatesByHand(t *testing.T) {
	i := example()
	for _, c := range []struct {
		estimates                        [][]int
		from, to, least, greatest, first int
	}{
		{[][]int{{1, 4}}, 0, 5, 14, 14, 0},
		{[][]int{{1, 4}, {4, 1}}, 0, 5, 11, 14, 1},
		{[][]int{{1, 4}, {4, 1}}, 5, 0, 11, 14, 1},
		{[][]int{{1, 4}, {4, 1}}, 0, 2, 2, 8, 0},
		{[][]int{{1, 4}, {4, 1}}, 1, 3, 5, 5, 0},
		{[][]int{{9, 9}, {3, 1}, {0, 3}, {9, 0}, {3, 1}}, 5, 0, 9, 45, 1},
		{[][]int{{9, 9}, {3, 1}, {0, 3}}, 4, 4, 0, 0, 0},
		{[][]int{{100, 100}, {0, 0}, {0, 0}}, 0, 5, 0, 500, 1},
		{[][]int{{0, 9}, {0, 8}, {0, 7}, {0, 6}, {0, 5}, {0, 4}, {0, 3}, {0, 2}, {0, 1}, {5, 0}}, 2, 3, 0, 9, 9},
	} {
		if least, greatest, err := Between(i, c.estimates, c.from, c.to); least != c.least || greatest != c.greatest || err != api.OK {
			t.Errorf("Between(%v, %d, %d): %d, %d, %d, want %d, %d", c.estimates, c.from, c.to, least, greatest, err, c.least, c.greatest)
		}
		if first, err := Clearest(i, c.estimates, c.from, c.to); first != c.first || err != api.OK {
			t.Errorf("Clearest(%v, %d, %d): %d, %d, want %d", c.estimates, c.from, c.to, first, err, c.first)
		}
	}
}

// withDims returns ice whose layers have other Dims.
func withDims(i []api.Layer, dims []int) []api.Layer {
	other := slices.Clone(i)
	for n, d := range dims {
		other[n].Dim = d
	}
	return other
}

// TestEstimates: P4.8 and P4.11, against the losses in ice that is as an estimate says.
func TestEstimates(t *testing.T) {
	manyIce(21, 300, func(i []api.Layer, next func(int) int) {
		depth := len(dimsOf(i))
		from, to := next(depth+1), next(depth+1)
		least, greatest, first := 1000000, -1, -1
		var estimates [][]int
		for len(estimates) < 10 {
			var dims []int
			for range i {
				dims = append(dims, next([]int{2, api.MaxDim + 1}[next(2)]))
			}
			estimates = append(estimates, dims)
			other := withDims(i, dims)
			loss := sure[int](t, "Loss")(Loss(other, from, to))
			if loss < least {
				least, first = loss, len(estimates)-1
			}
			greatest = max(greatest, loss)
			if a, b, err := Between(i, estimates, from, to); a != least || b != greatest || err != api.OK {
				t.Fatalf("Between(%v, %v, %d, %d): %d, %d, %d, want %d, %d", i, estimates, from, to, a, b, err, least, greatest)
			}
			if n, err := Clearest(i, estimates, from, to); n != first || err != api.OK {
				t.Fatalf("Clearest(%v, %v, %d, %d): %d, %d, want %d", i, estimates, from, to, n, err, first)
			}
			if a, b, err := Between(i, estimates[len(estimates)-1:], from, to); a != loss || b != loss || err != api.OK {
				t.Fatalf("Between(%v, %v, %d, %d): %d, %d, %d, want %d", i, dims, from, to, a, b, err, loss)
			}
		}
	})
}

// TestErrorsOfEstimates: P4.1 and P4.8.
func TestErrorsOfEstimates(t *testing.T) {
	i := example()
	hold := func(estimates [][]int, from, to int) {
		t.Helper()
		least, greatest, a := Between(i, estimates, from, to)
		first, b := Clearest(i, estimates, from, to)
		if least != 0 || greatest != 0 || first != 0 || a != api.ErrArg || b != api.ErrArg {
			t.Errorf("%v, %d, %d: %d, %d, %d, errors %d, %d", estimates, from, to, least, greatest, first, a, b)
		}
	}
	bad := [][][]int{
		nil, {}, {nil}, {{}}, {{1}}, {{1, 2, 3}}, {{1, 2}, {1}}, {{1, 2}, nil, {1, 2}}, {{1, 101}}, {{-1, 1}}, {{1, 2}, {1, 101}}, {{1, 2}, {1, 2}, {101, 2}},
		slices.Repeat([][]int{{1, 2}}, 11), slices.Repeat([][]int{{1, 2}}, 1000),
	}
	for _, n := range extremes {
		bad = append(bad, [][]int{{n, 0}}, [][]int{{0, n}}, [][]int{{1, 1}, {n, n}})
	}
	for _, estimates := range bad {
		hold(estimates, 0, 5)
		hold(estimates, 2, 2)
	}
	for _, n := range append([]int{6, 600}, extremes...) {
		hold([][]int{{1, 2}}, n, 0)
		hold([][]int{{1, 2}}, 5, n)
		hold([][]int{{1, 2}}, n, n)
	}
	if least, greatest, err := Between(i, slices.Repeat([][]int{{1, 2}}, 10), 0, 5); least != 8 || greatest != 8 || err != api.OK {
		t.Errorf("Between of ten estimates: %d, %d, %d", least, greatest, err)
	}
}
