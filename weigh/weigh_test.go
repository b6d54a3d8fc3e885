package weigh

import (
	"math"
	"math/big"
	"math/rand"
	"slices"
	"testing"

	"firn/api"
)

// The numbers that no call may stumble over.
var extremes = []int{math.MinInt, math.MinInt + 1, math.MinInt / 2, -1 << 32, -1, 1 << 32, math.MaxInt/2 + 1, math.MaxInt - 1, math.MaxInt}

// example has the odds of the chapter's examples.
func example() api.Odds {
	return api.Odds{Noise: []int{1, 2, 1}, Signal: []int{3, 0, 1}}
}

// of returns odds by the weights of their outcomes: noise, signal, noise, ...
func of(weights ...int) api.Odds {
	var o api.Odds
	for n := 0; n < len(weights); n += 2 {
		o.Noise = append(o.Noise, weights[n])
		o.Signal = append(o.Signal, weights[n+1])
	}
	return o
}

// heavy returns 10 outcomes of the greatest weights.
func heavy() api.Odds {
	full := slices.Repeat([]int{1000}, 10)
	return api.Odds{Noise: full, Signal: slices.Clone(full)}
}

// steep returns 10 outcomes whose ratios are far from each other, and near.
func steep() api.Odds {
	return of(1000, 1000, 1000, 999, 999, 1000, 999, 998, 1, 1000, 1000, 1, 998, 997, 1000, 997, 997, 1000, 1, 1)
}

// total returns the sum of weights.
func total(weights []int) int {
	n := 0
	for _, w := range weights {
		n += w
	}
	return n
}

// isOdds reports whether odds are valid, by the chapter's words.
func isOdds(o api.Odds) bool {
	if n := len(o.Noise); n != len(o.Signal) || n < 1 || n > 10 {
		return false
	}
	for _, l := range [][]int{o.Noise, o.Signal} {
		if slices.Min(l) < 0 || slices.Max(l) > 1000 || slices.Max(l) == 0 {
			return false
		}
	}
	return true
}

// randomOdds returns valid odds, some outcomes of which are alike, or multiples of
// others, or have a weight of 0, or two.
func randomOdds(next func(int) int, most, weight int) api.Odds {
	for {
		var o api.Odds
		for n := 1 + next(most); len(o.Noise) < n; {
			x, y := next(weight+1), next(weight+1)
			if next(6) == 0 {
				x = 0
			}
			if next(6) == 0 {
				y = 0
			}
			if a := len(o.Noise); a > 0 && next(4) == 0 {
				other, by := next(a), 1+next(3)
				x, y = min(by*o.Noise[other], 1000), min(by*o.Signal[other], 1000)
			}
			o.Noise, o.Signal = append(o.Noise, x), append(o.Signal, y)
		}
		if isOdds(o) {
			return o
		}
	}
}

// smallOdds calls look with all odds of up to 3 outcomes with weights up to 2.
func smallOdds(look func(o api.Odds)) {
	for n := 1; n <= 3; n++ {
		for code := range int(math.Pow(9, float64(n))) {
			var o api.Odds
			for range n {
				o.Noise, o.Signal = append(o.Noise, code%3), append(o.Signal, code/3%3)
				code /= 9
			}
			if isOdds(o) {
				look(o)
			}
		}
	}
}

// manyOdds calls look with random odds of all sizes and with some at the limits.
func manyOdds(seed int64, times int, look func(o api.Odds, next func(int) int)) {
	next := rand.New(rand.NewSource(seed)).Intn
	for range times {
		look(randomOdds(next, []int{2, 3, 5, api.MaxOdds}[next(4)], []int{1, 3, 20, api.MaxWeight}[next(4)]), next)
	}
	for _, o := range []api.Odds{
		example(), heavy(), steep(), of(1, 1), of(1000, 1), of(1, 1000), of(0, 1, 1, 0), of(1, 0, 0, 1), of(0, 0, 1, 1), of(1, 1, 0, 0),
		of(0, 0, 0, 5, 0, 0, 5, 0, 0, 0), of(0, 7, 0, 3, 1, 0), of(2, 3, 4, 6, 0, 0, 6, 9), of(0, 0, 3, 2, 0, 0, 2, 3, 0, 0),
	} {
		look(o, next)
	}
}

// cutsOf returns all cuts of n outcomes.
func cutsOf(n int) [][]int {
	if n == 0 {
		return [][]int{{}}
	}
	var l [][]int
	for _, c := range cutsOf(n - 1) {
		l = append(l, c, append(slices.Clone(c), n-1))
	}
	return l
}

func fraction(n, d int) *big.Rat {
	return big.NewRat(int64(n), int64(d))
}

// lowest returns a fraction as a ratio in lowest terms.
func lowest(r *big.Rat) api.Ratio {
	return api.Ratio{N: int(r.Num().Int64()), D: int(r.Denom().Int64())}
}

// share returns the part of weights that a cut keeps.
func share(weights []int, cut []int) *big.Rat {
	n := 0
	for _, a := range cut {
		n += weights[a]
	}
	return fraction(n, total(weights))
}

// gainOf returns the gain of a cut at a price.
func gainOf(o api.Odds, cut []int, price *big.Rat) *big.Rat {
	g := new(big.Rat).Mul(price, share(o.Noise, cut))
	return g.Sub(share(o.Signal, cut), g)
}

// comesBefore reports whether an outcome comes before another one by their weights.
func comesBefore(o api.Odds, a, b int) bool {
	return o.Signal[a]*o.Noise[b] > o.Signal[b]*o.Noise[a]
}

// sure returns a function that returns its first argument and fails a test if
// there is an error.
func sure[T any](t *testing.T, what string) func(T, api.Errno) T {
	t.Helper()
	return func(x T, err api.Errno) T {
		t.Helper()
		if err != api.OK {
			t.Fatalf("%s: error %d", what, err)
		}
		return x
	}
}

// invalidOdds are none.
func invalidOdds() []api.Odds {
	l := []api.Odds{
		{}, {Noise: []int{}, Signal: []int{}}, {Noise: []int{1}}, {Signal: []int{1}},
		{Noise: []int{1, 2}, Signal: []int{1}}, {Noise: []int{1}, Signal: []int{1, 2}},
		{Noise: slices.Repeat([]int{1}, 11), Signal: slices.Repeat([]int{1}, 11)},
		{Noise: slices.Repeat([]int{1}, 11), Signal: slices.Repeat([]int{1}, 10)},
		{Noise: slices.Repeat([]int{1}, 10), Signal: slices.Repeat([]int{1}, 11)},
		of(0, 1), of(1, 0), of(0, 0), of(0, 0, 0, 3, 0, 4), of(0, 0, 3, 0, 4, 0), of(0, 0, 0, 0),
		of(1001, 1), of(1, 1001), of(1, 1, 1, 1001), of(1, 1, 1001, 1),
		of(-1, 1, 5, 5), of(1, -1, 5, 5), of(5, 5, -1, 1), of(5, 5, 1, -1),
	}
	for _, n := range extremes {
		l = append(l, of(n, 1), of(1, n), of(1, 1, n, 1), of(1, 1, 1, n), of(n, 1, n, 1, 5, 5), of(n, n))
	}
	return l
}

// invalidCuts are none of n outcomes.
func invalidCuts(n int) [][]int {
	l := [][]int{{n}, {0, n}, {0, 0}, {n - 1, n - 1}, {0, -1}, {-1, 0}, slices.Repeat([]int{0}, n+1), {0, n + 1}}
	for _, x := range extremes {
		l = append(l, []int{x}, []int{0, x}, []int{x, 0}, []int{x, x})
	}
	if n > 1 {
		l = append(l, []int{1, 0}, []int{0, 1, 1}, []int{0, n - 1, 0})
	}
	return l
}

// TestValid: P7.2.
func TestValid(t *testing.T) {
	for _, o := range invalidOdds() {
		if Valid(o) {
			t.Errorf("Valid(%v)", o)
		}
	}
	for _, o := range []api.Odds{example(), heavy(), steep(), of(1, 1), of(1000, 1000), of(0, 1, 1, 0), of(0, 0, 1, 1), of(0, 0, 0, 0, 3, 0, 0, 3)} {
		if !Valid(o) {
			t.Errorf("not Valid(%v)", o)
		}
	}
}

// TestValidOfMany: P7.2, odds with one number changed.
func TestValidOfMany(t *testing.T) {
	values := append([]int{0, 1, 999, 1000, 1001}, extremes...)
	manyOdds(1, 2000, func(o api.Odds, next func(int) int) {
		list := [][]int{o.Noise, o.Signal}[next(2)]
		list[next(len(list))] = values[next(len(values))]
		switch next(8) {
		case 0:
			o.Noise = append(o.Noise, next(2))
		case 1:
			o.Signal = o.Signal[1:]
		}
		if Valid(o) != isOdds(o) {
			t.Fatalf("Valid(%v): %v", o, !isOdds(o))
		}
	})
}

// TestNoiseAndSignalByHand: P7.2.
func TestNoiseAndSignalByHand(t *testing.T) {
	o := of(1, 3, 2, 0, 3, 3, 0, 6)
	for _, c := range []struct {
		cut           []int
		noise, signal api.Ratio
	}{
		{nil, api.Ratio{N: 0, D: 1}, api.Ratio{N: 0, D: 1}},
		{[]int{}, api.Ratio{N: 0, D: 1}, api.Ratio{N: 0, D: 1}},
		{[]int{0}, api.Ratio{N: 1, D: 6}, api.Ratio{N: 1, D: 4}},
		{[]int{1}, api.Ratio{N: 1, D: 3}, api.Ratio{N: 0, D: 1}},
		{[]int{3}, api.Ratio{N: 0, D: 1}, api.Ratio{N: 1, D: 2}},
		{[]int{0, 2}, api.Ratio{N: 2, D: 3}, api.Ratio{N: 1, D: 2}},
		{[]int{1, 3}, api.Ratio{N: 1, D: 3}, api.Ratio{N: 1, D: 2}},
		{[]int{0, 1, 2, 3}, api.Ratio{N: 1, D: 1}, api.Ratio{N: 1, D: 1}},
	} {
		if n, err := Noise(o, c.cut); n != c.noise || err != api.OK {
			t.Errorf("Noise(%v): %v, %d, want %v", c.cut, n, err, c.noise)
		}
		if s, err := Signal(o, c.cut); s != c.signal || err != api.OK {
			t.Errorf("Signal(%v): %v, %d, want %v", c.cut, s, err, c.signal)
		}
	}
}

// TestNoiseAndSignal: P7.1 and P7.2, all cuts.
func TestNoiseAndSignal(t *testing.T) {
	manyOdds(2, 100, func(o api.Odds, _ func(int) int) {
		for _, cut := range cutsOf(len(o.Noise)) {
			if n, err := Noise(o, cut); n != lowest(share(o.Noise, cut)) || err != api.OK {
				t.Fatalf("Noise(%v, %v): %v, %d", o, cut, n, err)
			}
			if s, err := Signal(o, cut); s != lowest(share(o.Signal, cut)) || err != api.OK {
				t.Fatalf("Signal(%v, %v): %v, %d", o, cut, s, err)
			}
		}
	})
}

// TestErrorsOfOdds: P7.1, the error of odds comes before all others.
func TestErrorsOfOdds(t *testing.T) {
	for _, o := range invalidOdds() {
		for _, bad := range []bool{false, true} {
			cut, price, k, a, b, other := []int{}, api.Ratio{N: 1, D: 1}, 1, 0, 1, example()
			if bad {
				cut, price, k, a, b, other = []int{1, 0}, api.Ratio{N: -1}, 99, 5, 5, heavy()
			}
			for name, f := range map[string]func() (bool, api.Errno){
				"Noise":   zero(func() (api.Ratio, api.Errno) { return Noise(o, cut) }),
				"Signal":  zero(func() (api.Ratio, api.Errno) { return Signal(o, cut) }),
				"Row":     none(func() ([]int, api.Errno) { return Row(o) }),
				"Cut":     none(func() ([]int, api.Errno) { return Cut(o, k) }),
				"Best":    none(func() ([]int, api.Errno) { return Best(o, price) }),
				"Gain":    zero(func() (api.Ratio, api.Errno) { return Gain(o, cut, price) }),
				"Dearest": none(func() ([]int, api.Errno) { return Dearest(o, price) }),
				"Proves":  zero(func() (bool, api.Errno) { return Proves(o, cut, price) }),
				"Price":   zero(func() (api.Ratio, api.Errno) { return Price(o, k) }),
				"Curve":   none(func() ([][2]api.Ratio, api.Errno) { return Curve(o) }),
				"Area":    zero(func() (api.Ratio, api.Errno) { return Area(o) }),
				"Pairs":   zero(func() (api.Ratio, api.Errno) { return Pairs(o) }),
				"Apart":   zero(func() (api.Ratio, api.Errno) { return Apart(o) }),
				"Merged":  noOdds(func() (api.Odds, api.Errno) { return Merged(o, a, b) }),
				"Swapped": noOdds(func() (api.Odds, api.Errno) { return Swapped(o) }),
				"Both":    noOdds(func() (api.Odds, api.Errno) { return Both(o, other) }),
				"Both to": noOdds(func() (api.Odds, api.Errno) { return Both(other, o) }),
			} {
				if nothing, err := f(); !nothing || err != api.ErrOdds {
					t.Errorf("%s of %v: error %d, zero: %v", name, o, err, nothing)
				}
			}
		}
	}
}

// zero, none and noOdds turn a call into one that tells whether its result is zero.
func zero[T comparable](f func() (T, api.Errno)) func() (bool, api.Errno) {
	return func() (bool, api.Errno) {
		x, err := f()
		var nothing T
		return x == nothing, err
	}
}

func none[T any](f func() ([]T, api.Errno)) func() (bool, api.Errno) {
	return func() (bool, api.Errno) {
		x, err := f()
		return len(x) == 0, err
	}
}

func noOdds(f func() (api.Odds, api.Errno)) func() (bool, api.Errno) {
	return func() (bool, api.Errno) {
		x, err := f()
		return len(x.Noise) == 0 && len(x.Signal) == 0, err
	}
}

// TestErrorsOfCuts: P7.1.
func TestErrorsOfCuts(t *testing.T) {
	one := api.Ratio{N: 1, D: 1}
	for _, o := range []api.Odds{example(), of(1, 1), heavy()} {
		for _, cut := range invalidCuts(len(o.Noise)) {
			if x, err := Noise(o, cut); x != (api.Ratio{}) || err != api.ErrArg {
				t.Errorf("Noise(%v, %v): %v, %d", o, cut, x, err)
			}
			if x, err := Signal(o, cut); x != (api.Ratio{}) || err != api.ErrArg {
				t.Errorf("Signal(%v, %v): %v, %d", o, cut, x, err)
			}
			if x, err := Gain(o, cut, one); x != (api.Ratio{}) || err != api.ErrArg {
				t.Errorf("Gain(%v, %v): %v, %d", o, cut, x, err)
			}
			if x, err := Proves(o, cut, one); x || err != api.ErrArg {
				t.Errorf("Proves(%v, %v): %v, %d", o, cut, x, err)
			}
		}
	}
}

// TestMergedByHand: P7.6.
func TestMergedByHand(t *testing.T) {
	o := of(1, 5, 2, 6, 3, 7, 4, 8)
	for _, c := range []struct {
		o    api.Odds
		a, b int
		want api.Odds
	}{
		{o, 0, 1, of(3, 11, 3, 7, 4, 8)}, {o, 0, 3, of(5, 13, 2, 6, 3, 7)}, {o, 1, 2, of(1, 5, 5, 13, 4, 8)},
		{o, 1, 3, of(1, 5, 6, 14, 3, 7)}, {o, 2, 3, of(1, 5, 2, 6, 7, 15)}, {of(0, 1, 1, 0), 0, 1, of(1, 1)},
		{of(1000, 1000, 1, 0), 0, 1, of(1001, 1000)}, {of(1000, 1000, 1000, 1000), 0, 1, of(2000, 2000)},
		{of(0, 0, 0, 0, 1, 1), 0, 1, of(0, 0, 1, 1)},
	} {
		if m, err := Merged(c.o, c.a, c.b); !same(m, c.want) || err != api.OK {
			t.Errorf("Merged(%v, %d, %d): %v, %d, want %v", c.o, c.a, c.b, m, err, c.want)
		}
	}
}

// same reports whether odds are the same.
func same(o, p api.Odds) bool {
	return slices.Equal(o.Noise, p.Noise) && slices.Equal(o.Signal, p.Signal)
}

// TestMerged: P7.1 and P7.6, all numbers of outcomes, also such as are none.
func TestMerged(t *testing.T) {
	manyOdds(3, 100, func(o api.Odds, _ func(int) int) {
		n := len(o.Noise)
		numbers := append([]int{-2, n, n + 1}, extremes...)
		for a := range n {
			numbers = append(numbers, a)
		}
		for _, a := range numbers {
			for _, b := range numbers {
				m, err := Merged(o, a, b)
				if 0 <= a && a < b && b < n {
					holdMerged(t, o, a, b, m, err)
				} else if err != api.ErrArg || !same(m, api.Odds{}) {
					t.Fatalf("Merged(%v, %d, %d): %v, %d", o, a, b, m, err)
				}
			}
		}
	})
}

// holdMerged holds the odds behind a merge against those before it.
func holdMerged(t *testing.T, o api.Odds, a, b int, m api.Odds, err api.Errno) {
	t.Helper()
	var want api.Odds
	for c := range o.Noise {
		switch c {
		case a:
			want.Noise, want.Signal = append(want.Noise, o.Noise[a]+o.Noise[b]), append(want.Signal, o.Signal[a]+o.Signal[b])
		case b:
		default:
			want.Noise, want.Signal = append(want.Noise, o.Noise[c]), append(want.Signal, o.Signal[c])
		}
	}
	if err != api.OK || !same(m, want) {
		t.Fatalf("Merged(%v, %d, %d): %v, %d, want %v", o, a, b, m, err, want)
	}
}

// TestSwapped: P7.6.
func TestSwapped(t *testing.T) {
	manyOdds(4, 500, func(o api.Odds, _ func(int) int) {
		s := sure[api.Odds](t, "Swapped")(Swapped(o))
		if !slices.Equal(s.Noise, o.Signal) || !slices.Equal(s.Signal, o.Noise) {
			t.Fatalf("Swapped(%v): %v", o, s)
		}
	})
}

// TestBothByHand: P7.6.
func TestBothByHand(t *testing.T) {
	for _, c := range []struct {
		o, p, want api.Odds
		err        api.Errno
	}{
		{of(1, 2, 3, 4), of(5, 6, 7, 8), of(5, 3, 7, 4, 15, 6, 21, 8), api.OK},
		{of(1, 1), of(1, 1), of(1, 1), api.OK},
		{example(), of(1, 1), example(), api.OK},
		{of(1, 1), example(), example(), api.OK},
		{example(), of(1, 2, 2, 1), of(1, 6, 2, 3, 2, 0, 4, 0, 1, 2, 2, 1), api.OK},
		{of(1, 2, 2, 1), example(), of(1, 6, 2, 0, 1, 2, 2, 3, 4, 0, 2, 1), api.OK},
		// The weights are divided in each list of its own, and zeros divide by nothing.
		{of(6, 5, 4, 0), of(10, 3, 15, 0), of(6, 1, 9, 0, 4, 0, 6, 0), api.OK},
		{of(0, 3, 7, 0), of(2, 0, 0, 9), of(0, 0, 0, 1, 1, 0, 0, 0), api.OK},
		{of(1000, 1000), of(1000, 1000), of(1, 1), api.OK},
		{of(1000, 1000, 500, 1000), of(1000, 1000, 500, 0), of(4, 1, 2, 0, 2, 1, 1, 0), api.OK},
		// 2 * 5 outcomes are as many as there can be.
		{of(1, 1, 1, 1), of(1, 1, 1, 1, 1, 1, 1, 1, 1, 1), of(slices.Repeat([]int{1}, 20)...), api.OK},
		{of(1, 1), heavy(), of(slices.Repeat([]int{1}, 20)...), api.OK},
		{heavy(), of(1, 1), of(slices.Repeat([]int{1}, 20)...), api.OK},
		{of(1, 1, 1, 1, 1, 1), of(1, 1, 1, 1, 1, 1, 1, 1), api.Odds{}, api.ErrNone},
		{heavy(), of(1, 1, 1, 1), api.Odds{}, api.ErrNone},
		{heavy(), heavy(), api.Odds{}, api.ErrNone},
		// A weight of 1000 is the greatest, of whichever list.
		{of(50, 1, 1, 1), of(20, 1, 1, 1), of(1000, 1, 50, 1, 20, 1, 1, 1), api.OK},
		{of(1, 50, 1, 1), of(1, 20, 1, 1), of(1, 1000, 1, 50, 1, 20, 1, 1), api.OK},
		{of(77, 1, 1, 1), of(13, 1, 1, 1), api.Odds{}, api.ErrNone}, // 1001
		{of(1, 77, 1, 1), of(1, 13, 1, 1), api.Odds{}, api.ErrNone},
		{of(1, 1, 1, 77), of(1, 1, 1, 13), api.Odds{}, api.ErrNone},
		{of(77, 1, 0, 1), of(13, 1, 0, 1), of(1, 1, 0, 1, 0, 1, 0, 1), api.OK},
		{of(154, 1, 2, 1), of(26, 1, 2, 1), api.Odds{}, api.ErrNone},
		{of(1000, 1, 999, 1), of(1000, 1, 999, 1), api.Odds{}, api.ErrNone},
		{of(1000, 1, 500, 1), of(1000, 1, 500, 1), of(4, 1, 2, 1, 2, 1, 1, 1), api.OK},
	} {
		if b, err := Both(c.o, c.p); !same(b, c.want) || err != c.err {
			t.Errorf("Both(%v, %v): %v, %d, want %v, %d", c.o, c.p, b, err, c.want, c.err)
		}
	}
}

// bothOf returns the odds of two observations, if there are any, by the chapter's words.
func bothOf(o, p api.Odds) (api.Odds, bool) {
	var both api.Odds
	common := [2]*big.Int{new(big.Int), new(big.Int)}
	for a := range o.Noise {
		for b := range p.Noise {
			x, y := o.Noise[a]*p.Noise[b], o.Signal[a]*p.Signal[b]
			both.Noise, both.Signal = append(both.Noise, x), append(both.Signal, y)
			common[0].GCD(nil, nil, common[0], big.NewInt(int64(x)))
			common[1].GCD(nil, nil, common[1], big.NewInt(int64(y)))
		}
	}
	for i := range both.Noise {
		both.Noise[i] /= int(common[0].Int64())
		both.Signal[i] /= int(common[1].Int64())
	}
	if !isOdds(both) {
		return api.Odds{}, false
	}
	return both, true
}

// TestBoth: P7.6.
func TestBoth(t *testing.T) {
	there := 0
	manyOdds(5, 4000, func(o api.Odds, next func(int) int) {
		p := randomOdds(next, 1+next(5), []int{1, 3, 20, 100, 1000}[next(5)])
		want, ok := bothOf(o, p)
		both, err := Both(o, p)
		if ok != (err == api.OK) || !ok && err != api.ErrNone || !same(both, want) {
			t.Fatalf("Both(%v, %v): %v, %d, want %v", o, p, both, err, want)
		}
		if ok {
			there++
		}
	})
	if there < 500 || there > 3500 {
		t.Errorf("Both has odds %d times", there)
	}
}

// more returns a list with room behind it, which must stay as it is.
func more(l []int) []int {
	return append(l, 7, 7, 7)[:len(l)]
}

// TestMemory: R4.
func TestMemory(t *testing.T) {
	manyOdds(6, 200, func(o api.Odds, next func(int) int) {
		o = api.Odds{Noise: more(o.Noise), Signal: more(o.Signal)}
		p := api.Odds{Noise: more([]int{1, 2}), Signal: more([]int{1, 1})}
		n := len(o.Noise)
		cut := more([]int{n - 1})
		noise, signal := slices.Clone(o.Noise[:n+3]), slices.Clone(o.Signal[:n+3])
		price := api.Ratio{N: 6, D: 4}
		for _, f := range []func() [][]int{
			func() [][]int { return lists(Row(o)) },
			func() [][]int { return lists(Cut(o, n)) },
			func() [][]int { return lists(Best(o, api.Ratio{N: 4, D: 6})) },
			func() [][]int { return lists(Dearest(o, price)) },
			func() [][]int { return parts(Merged(o, 0, min(1, n-1))) },
			func() [][]int { return parts(Swapped(o)) },
			func() [][]int { return parts(Both(o, p)) },
			func() [][]int { return parts(Both(p, o)) },
			func() [][]int { Gain(o, cut, price); return nil },
			func() [][]int { Proves(o, cut, price); return nil },
			func() [][]int { Noise(o, cut); Signal(o, cut); return nil },
			func() [][]int {
				Area(o)
				Pairs(o)
				Apart(o)
				Curve(o)
				Price(o, n)
				return nil
			},
		} {
			first := f()
			var kept [][]int
			for _, l := range first {
				kept = append(kept, slices.Clone(l))
			}
			for _, l := range first {
				spoil(l[:cap(l)])
			}
			if !slices.EqualFunc(f(), kept, slices.Equal) {
				t.Fatalf("a result of %v is not its own", o)
			}
		}
		if !slices.Equal(o.Noise[:n+3], noise) || !slices.Equal(o.Signal[:n+3], signal) {
			t.Fatalf("%v, %v was changed", noise, signal)
		}
		if !slices.Equal(cut[:4], []int{n - 1, 7, 7, 7}) || !slices.Equal(p.Noise[:5], []int{1, 2, 7, 7, 7}) {
			t.Fatalf("%v or %v was changed", cut[:4], p.Noise[:5])
		}
	})
}

// TestListsOfTheirOwn: R4, the lists of a result are two, also if those given are one.
func TestListsOfTheirOwn(t *testing.T) {
	one := []int{1, 2, 1}
	o, p := api.Odds{Noise: one, Signal: one}, of(1, 1)
	for name, m := range map[string]api.Odds{
		"Merged":  sure[api.Odds](t, "Merged")(Merged(o, 0, 1)),
		"Swapped": sure[api.Odds](t, "Swapped")(Swapped(o)),
		"Both":    sure[api.Odds](t, "Both")(Both(o, p)),
		"Both to": sure[api.Odds](t, "Both")(Both(p, o)),
	} {
		before := slices.Clone(m.Signal)
		spoil(m.Noise[:cap(m.Noise)])
		if !slices.Equal(m.Signal, before) || !slices.Equal(one, []int{1, 2, 1}) {
			t.Errorf("%s: the lists are one", name)
		}
	}
}

func lists(l []int, _ api.Errno) [][]int {
	return [][]int{l}
}

func parts(o api.Odds, _ api.Errno) [][]int {
	return [][]int{o.Noise, o.Signal}
}

// spoil makes all numbers of a list others, each one a different one if it is shared.
func spoil(l []int) {
	for i := range l {
		l[i] = 3*l[i] + 1000
	}
}
