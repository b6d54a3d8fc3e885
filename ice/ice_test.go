package ice

import (
	"math"
	"math/rand"
	"slices"
	"testing"

	"firn/api"
)

// The numbers that no call may stumble over.
var extremes = []int{math.MinInt, math.MinInt + 1, -1, math.MaxInt - 1, math.MaxInt}

// example is the ice of the chapter's examples.
func example() []api.Layer {
	return []api.Layer{{Thick: 2, Dim: 1}, {Thick: 3, Dim: 4}}
}

// layers returns the ice of n equal layers.
func layers(n, thick, dim int) []api.Layer {
	return slices.Repeat([]api.Layer{{Thick: thick, Dim: dim}}, n)
}

// dimsOf returns the Dim of each metre of ice.
func dimsOf(i []api.Layer) []int {
	var dims []int
	for _, l := range i {
		dims = append(dims, slices.Repeat([]int{l.Dim}, l.Thick)...)
	}
	return dims
}

// sum returns the sum of numbers.
func sum(numbers []int) int {
	s := 0
	for _, n := range numbers {
		s += n
	}
	return s
}

// randomIce returns ice of some layers of up to thick metres that take less than dims.
func randomIce(next func(int) int, layers, thick, dims int) []api.Layer {
	var i []api.Layer
	for n := 1 + next(layers); len(i) < n; {
		l := api.Layer{Thick: 1 + next(thick), Dim: next(dims)}
		if next(4) == 0 {
			l.Dim = 0
		}
		i = append(i, l)
	}
	return i
}

// smallIce calls look with ice of up to 6 metres: all of up to 4 metres that take
// up to 3, and random ones.
func smallIce(seed int64, times int, look func(i []api.Layer, next func(int) int)) {
	next := rand.New(rand.NewSource(seed)).Intn
	for n := 1; n <= 4; n++ {
		for code := range 1 << (2 * n) {
			i := layers(n, 1, 0)
			for k := range i {
				i[k].Dim = code >> (2 * k) & 3
			}
			look(i, next)
		}
	}
	for range times {
		look(randomIce(next, 3, 2, []int{2, 4, 12, api.MaxDim + 1}[next(4)]), next)
	}
}

// manyIce calls look with random ice of all sizes and with that at the limits.
func manyIce(seed int64, times int, look func(i []api.Layer, next func(int) int)) {
	next := rand.New(rand.NewSource(seed)).Intn
	for range times {
		look(randomIce(next, []int{3, 6, api.MaxLayers}[next(3)], []int{1, 5, api.MaxThick}[next(3)], []int{2, 5, 30, api.MaxDim + 1}[next(4)]), next)
	}
	for _, i := range [][]api.Layer{
		example(), layers(1, 1, 0), layers(1, 1, api.MaxDim), layers(1, api.MaxThick, 0), layers(1, api.MaxThick, 7),
		layers(api.MaxLayers, api.MaxThick, 0), layers(api.MaxLayers, api.MaxThick, api.MaxDim), layers(api.MaxLayers, 1, 3),
	} {
		look(i, next)
	}
}

func invalidIce() [][]api.Layer {
	bad := [][]api.Layer{
		nil, {}, layers(api.MaxLayers+1, 1, 1), layers(1000, 1, 1), {{Thick: 1}, {}}, {{}},
		layers(1, 0, 1), layers(1, -1, 1), layers(1, api.MaxThick+1, 1), layers(1, 1, -1), layers(1, 1, api.MaxDim+1),
		append(example(), api.Layer{Thick: 31}), append(example(), api.Layer{Thick: 1, Dim: 101}), {{Thick: 0, Dim: 5}, {Thick: 5, Dim: 5}},
	}
	for _, n := range extremes {
		bad = append(bad, layers(1, n, 1), layers(1, 1, n), append(layers(1, n, n), example()...), append(example(), layers(1, 1, n)...))
	}
	return bad
}

// sure returns a function that returns its first argument and fails a test if
// there is an error.
func sure[T any](t *testing.T, what string) func(T, api.Errno) T {
	t.Helper()
	return func(x T, err api.Errno) T {
		t.Helper()
		if err != api.OK {
			t.Fatalf("%s: error %d", what, err)
		}
		return x
	}
}

// TestValid: P4.2.
func TestValid(t *testing.T) {
	for _, i := range [][]api.Layer{
		example(), layers(1, 1, 0), layers(1, api.MaxThick, api.MaxDim), layers(api.MaxLayers, api.MaxThick, api.MaxDim), layers(api.MaxLayers, 1, 0),
	} {
		if !Valid(i) {
			t.Errorf("Valid(%v): false", i)
		}
	}
	for _, i := range invalidIce() {
		if Valid(i) {
			t.Errorf("Valid(%v): true", i)
		}
	}
	// Only the length of a list says how many layers there are.
	if long := layers(30, 1, 1); !Valid(long[:20]) || Valid(long[:0]) {
		t.Errorf("Valid of a part of a list")
	}
}

// TestLossesByHand: P4.2 and the chapter's first example.
func TestLossesByHand(t *testing.T) {
	i := []api.Layer{{Thick: 2, Dim: 1}, {Thick: 3, Dim: 4}, {Thick: 1, Dim: 0}}
	for n, d := range []int{2, 5, 6} {
		if depth, err := Depth(i[:n+1]); depth != d || err != api.OK {
			t.Errorf("Depth(%v): %d, %d, want %d", i[:n+1], depth, err, d)
		}
	}
	for metre, want := range []int{1, 1, 4, 4, 4, 0} {
		if d, err := Dim(i, metre); d != want || err != api.OK {
			t.Errorf("Dim(%d): %d, %d, want %d", metre, d, err, want)
		}
	}
	for _, c := range []struct {
		from, to, loss int
		mean           api.Ratio
	}{
		{0, 3, 6, api.Ratio{N: 2, D: 1}},
		{0, 1, 1, api.Ratio{N: 1, D: 1}},
		{1, 3, 5, api.Ratio{N: 5, D: 2}},
		{2, 5, 12, api.Ratio{N: 4, D: 1}},
		{0, 6, 14, api.Ratio{N: 7, D: 3}},
		{5, 6, 0, api.Ratio{N: 0, D: 1}},
		{2, 6, 12, api.Ratio{N: 3, D: 1}},
		{4, 6, 4, api.Ratio{N: 2, D: 1}},
		{1, 6, 13, api.Ratio{N: 13, D: 5}},
	} {
		for _, d := range [][2]int{{c.from, c.to}, {c.to, c.from}} {
			if loss, err := Loss(i, d[0], d[1]); loss != c.loss || err != api.OK {
				t.Errorf("Loss(%v): %d, %d, want %d", d, loss, err, c.loss)
			}
			if mean, err := Mean(i, d[0], d[1]); mean != c.mean || err != api.OK {
				t.Errorf("Mean(%v): %v, %d, want %v", d, mean, err, c.mean)
			}
		}
	}
	if mean, err := Mean(layers(2, 3, 0), 5, 1); mean != (api.Ratio{N: 0, D: 1}) || err != api.OK {
		t.Errorf("Mean without loss: %v, %d", mean, err)
	}
	whole := layers(api.MaxLayers, api.MaxThick, api.MaxDim)
	if loss, err := Loss(whole, 0, 600); loss != 60000 || err != api.OK {
		t.Errorf("the greatest loss: %d, %d", loss, err)
	}
}

// TestLosses: P4.2, P4.9 and P4.11, against the sums over all metres.
func TestLosses(t *testing.T) {
	manyIce(1, 400, func(i []api.Layer, next func(int) int) {
		dims := dimsOf(i)
		if depth, err := Depth(i); depth != len(dims) || err != api.OK {
			t.Fatalf("Depth(%v): %d, %d", i, depth, err)
		}
		metre := next(len(dims))
		if d, err := Dim(i, metre); d != dims[metre] || err != api.OK {
			t.Fatalf("Dim(%v, %d): %d, %d", i, metre, d, err)
		}
		depths := []int{next(len(dims) + 1), next(len(dims) + 1), next(len(dims) + 1)}
		slices.Sort(depths)
		a, b, c := depths[0], depths[1], depths[2]
		if loss, err := Loss(i, a, c); loss != sum(dims[a:c]) || err != api.OK {
			t.Fatalf("Loss(%v, %d, %d): %d, %d", i, a, c, loss, err)
		}
		if back, err := Loss(i, c, a); back != sum(dims[a:c]) || err != api.OK {
			t.Fatalf("Loss(%v, %d, %d): %d, %d", i, c, a, back, err)
		}
		if sure[int](t, "Loss")(Loss(i, a, b))+sure[int](t, "Loss")(Loss(i, b, c)) != sum(dims[a:c]) {
			t.Fatalf("Loss(%v) by way of %d, %d, %d", i, a, b, c)
		}
		if a < c {
			holdMean(t, i, a, c)
		}
	})
}

// holdMean holds the mean between two depths, the first one above the second one,
// against the metres between them.
func holdMean(t *testing.T, i []api.Layer, a, c int) {
	t.Helper()
	dims := dimsOf(i)[a:c]
	mean, err := Mean(i, a, c)
	if err != api.OK || mean.D < 1 || mean.N*len(dims) != sum(dims)*mean.D {
		t.Fatalf("Mean(%v, %d, %d): %v, %d", i, a, c, mean, err)
	}
	for by := 2; by <= mean.D; by++ {
		if mean.N%by == 0 && mean.D%by == 0 {
			t.Fatalf("Mean(%v, %d, %d): %v is not in lowest terms", i, a, c, mean)
		}
	}
	if mean.N < slices.Min(dims)*mean.D || mean.N > slices.Max(dims)*mean.D {
		t.Fatalf("Mean(%v, %d, %d): %v of %v", i, a, c, mean, dims)
	}
	if back, err := Mean(i, c, a); back != mean || err != api.OK {
		t.Fatalf("Mean(%v, %d, %d): %v, %d", i, c, a, back, err)
	}
}

// TestMiddle: P4.4.
func TestMiddle(t *testing.T) {
	for _, c := range []struct {
		i      []api.Layer
		middle int
	}{
		{example(), 4}, // at 3 it is 6 to the top, but 8 to the bottom
		{layers(1, 1, 0), 0},
		{layers(3, 9, 0), 0},
		{layers(1, 1, 1), 1},
		{layers(1, 2, 1), 1},
		{layers(1, 3, 1), 2},
		{layers(api.MaxLayers, api.MaxThick, api.MaxDim), 300},
		{[]api.Layer{{Thick: 1, Dim: 5}, {Thick: 8, Dim: 0}, {Thick: 1, Dim: 5}}, 1},
		{[]api.Layer{{Thick: 4, Dim: 0}, {Thick: 1, Dim: 5}, {Thick: 4, Dim: 0}}, 5},
		{[]api.Layer{{Thick: 1, Dim: 100}, {Thick: 30, Dim: 1}}, 1},
		{[]api.Layer{{Thick: 30, Dim: 1}, {Thick: 1, Dim: 100}}, 31},
	} {
		if d, err := Middle(c.i); d != c.middle || err != api.OK {
			t.Errorf("Middle(%v): %d, %d, want %d", c.i, d, err, c.middle)
		}
	}
	manyIce(2, 400, func(i []api.Layer, next func(int) int) {
		dims := dimsOf(i)
		want := 0
		for sum(dims[want:]) > sum(dims[:want]) {
			want++
		}
		if d, err := Middle(i); d != want || err != api.OK {
			t.Fatalf("Middle(%v): %d, %d, want %d", i, d, err, want)
		}
	})
}

// TestPlain: P4.7.
func TestPlain(t *testing.T) {
	for _, c := range [][2][]api.Layer{
		{example(), example()},
		{layers(1, 3, 0), layers(1, 3, 0)},
		{layers(5, 3, 0), layers(1, 15, 0)},
		{layers(api.MaxLayers, api.MaxThick, 9), layers(1, 600, 9)},
		{append(example(), example()...), append(example(), example()...)},
		{append(example(), api.Layer{Thick: 30, Dim: 4}, api.Layer{Thick: 1, Dim: 1}), {{Thick: 2, Dim: 1}, {Thick: 33, Dim: 4}, {Thick: 1, Dim: 1}}},
	} {
		if plain, err := Plain(c[0]); !slices.Equal(plain, c[1]) || err != api.OK {
			t.Errorf("Plain(%v): %v, %d, want %v", c[0], plain, err, c[1])
		}
	}
	manyIce(3, 400, func(i []api.Layer, next func(int) int) {
		plain, err := Plain(i)
		if err != api.OK || !slices.Equal(dimsOf(plain), dimsOf(i)) {
			t.Fatalf("Plain(%v): %v, %d", i, plain, err)
		}
		for n := 1; n < len(plain); n++ {
			if plain[n-1].Dim == plain[n].Dim {
				t.Fatalf("Plain(%v): %v", i, plain)
			}
		}
	})
}

// TestTurned: P4.7 and P4.11.
func TestTurned(t *testing.T) {
	if turned, err := Turned(example()); !slices.Equal(turned, []api.Layer{{Thick: 3, Dim: 4}, {Thick: 2, Dim: 1}}) || err != api.OK {
		t.Errorf("Turned: %v, %d", turned, err)
	}
	// Layers of the same Dim stay apart.
	twice := []api.Layer{{Thick: 2, Dim: 4}, {Thick: 3, Dim: 4}, {Thick: 1, Dim: 0}}
	if turned, err := Turned(twice); !slices.Equal(turned, []api.Layer{{Thick: 1, Dim: 0}, {Thick: 3, Dim: 4}, {Thick: 2, Dim: 4}}) || err != api.OK {
		t.Errorf("Turned: %v, %d", turned, err)
	}
	manyIce(4, 400, func(i []api.Layer, next func(int) int) {
		turned, err := Turned(i)
		want := dimsOf(i)
		slices.Reverse(want)
		if err != api.OK || len(turned) != len(i) || !slices.Equal(dimsOf(turned), want) {
			t.Fatalf("Turned(%v): %v, %d", i, turned, err)
		}
		a, b := next(len(want)+1), next(len(want)+1)
		if sure[int](t, "Loss")(Loss(turned, a, b)) != sure[int](t, "Loss")(Loss(i, len(want)-a, len(want)-b)) {
			t.Fatalf("Loss of %v from the other end", i)
		}
		if back, err := Turned(turned); !slices.Equal(back, i) || err != api.OK {
			t.Fatalf("Turned(%v): %v, %d", turned, back, err)
		}
	})
}

// TestErrorsOfDepths: P4.1 and P4.2, depths and metres that are none.
func TestErrorsOfDepths(t *testing.T) {
	i := example()
	for _, n := range append([]int{6, 600, -2}, extremes...) {
		for _, d := range [][2]int{{n, 0}, {5, n}, {n, n}} {
			loss, a := Loss(i, d[0], d[1])
			mean, b := Mean(i, d[0], d[1])
			if loss != 0 || mean != (api.Ratio{}) || a != api.ErrArg || b != api.ErrArg {
				t.Errorf("between %v: %d, %v, errors %d, %d", d, loss, mean, a, b)
			}
		}
	}
	for _, n := range append([]int{5, 6, 600, -2}, extremes...) {
		if d, err := Dim(i, n); d != 0 || err != api.ErrArg {
			t.Errorf("Dim(%d): %d, %d", n, d, err)
		}
	}
	for d := range 6 {
		if loss, err := Loss(i, d, d); loss != 0 || err != api.OK {
			t.Errorf("Loss(%d, %d): %d, %d", d, d, loss, err)
		}
		if mean, err := Mean(i, d, d); mean != (api.Ratio{}) || err != api.ErrArg {
			t.Errorf("Mean(%d, %d): %v, %d", d, d, mean, err)
		}
	}
}

// TestErrorsOfIce: P4.1, ErrIce is in front of all others.
func TestErrorsOfIce(t *testing.T) {
	for _, i := range invalidIce() {
		depth, a := Depth(i)
		dim, b := Dim(i, -1)
		loss, c := Loss(i, -1, 700)
		down, d := Down(i, -1, -1)
		up, e := Up(i, -1, -1)
		from, to, f := Lit(i, -1, -1)
		mean, g := Mean(i, 0, 0)
		middle, h := Middle(i)
		lamps, j := Lamps(i, -1)
		light, k := Light(i, -1, []int{-1})
		dark, l := Dark(i, -1)
		are, m := AreDark(i, -1, []int{-1})
		least, n := Least(i, 0)
		plain, o := Plain(i)
		turned, p := Turned(i)
		fewer, more, q := Between(i, nil, -1, -1)
		first, r := Clearest(i, nil, -1, -1)
		if depth != 0 || dim != 0 || loss != 0 || down != 0 || up != 0 || from != 0 || to != 0 || mean != (api.Ratio{}) || middle != 0 ||
			lamps != nil || light || dark != nil || are || least != 0 || plain != nil || turned != nil || fewer != 0 || more != 0 || first != 0 {
			t.Errorf("results for %v", i)
		}
		if errs := []api.Errno{a, b, c, d, e, f, g, h, j, k, l, m, n, o, p, q, r}; !slices.Equal(errs, slices.Repeat([]api.Errno{api.ErrIce}, 17)) {
			t.Errorf("errors for %v: %v", i, errs)
		}
	}
}

// TestMemory: rule R4, arguments stay and results are new memory.
func TestMemory(t *testing.T) {
	i := append(example(), layers(2, 1, 4)...)
	was := slices.Clone(i)
	for _, f := range []func() ([]api.Layer, api.Errno){
		func() ([]api.Layer, api.Errno) { return Plain(i) },
		func() ([]api.Layer, api.Errno) { return Turned(i) },
		func() ([]api.Layer, api.Errno) { return Plain(i[:1]) },
		func() ([]api.Layer, api.Errno) { return Turned(i[:1]) },
	} {
		once := sure[[]api.Layer](t, "call")(f())
		kept := slices.Clone(once)
		for n := range once {
			once[n] = api.Layer{Thick: -77, Dim: -77}
		}
		if again := sure[[]api.Layer](t, "call")(f()); !slices.Equal(again, kept) || !slices.Equal(i, was) {
			t.Fatalf("%v, then %v; %v, then %v", kept, again, was, i)
		}
	}
	lamps, places := []int{2, 4}, []int{0, 3}
	estimates := [][]int{{3, 2, 1, 0}, {1, 1, 1, 1}}
	sure[bool](t, "Light")(Light(i, 4, lamps))
	sure[bool](t, "AreDark")(AreDark(i, 4, places))
	sure[int](t, "Clearest")(Clearest(i, estimates, 0, 4))
	Between(i, estimates, 0, 4)
	if !slices.Equal(lamps, []int{2, 4}) || !slices.Equal(places, []int{0, 3}) || !slices.Equal(estimates[0], []int{3, 2, 1, 0}) || !slices.Equal(estimates[1], []int{1, 1, 1, 1}) {
		t.Errorf("changed: %v, %v, %v", lamps, places, estimates)
	}
}
