package track

import (
	"math"
	"math/big"
	"math/rand"
	"slices"
	"testing"

	"firn/api"
)

// The numbers that no call may stumble over.
var extremes = []int{math.MinInt, math.MinInt + 1, math.MinInt / 2, math.MaxInt / 2, math.MaxInt - 1, math.MaxInt}

// points returns points by their coordinates.
func points(coordinates ...int) []api.Point {
	var p []api.Point
	for n := 0; n < len(coordinates); n += 2 {
		p = append(p, api.Point{X: coordinates[n], Y: coordinates[n+1]})
	}
	return p
}

// first and second are the points of the chapter's examples.
func first() []api.Point  { return points(0, 0, 1, 0, 2, 3) }
func second() []api.Point { return points(0, 0, 0, 4, 1, 1) }

// row returns n points side by side.
func row(n int) []api.Point {
	var p []api.Point
	for x := range n {
		p = append(p, api.Point{X: x, Y: 5})
	}
	return p
}

// corners returns 12 points, three in each corner of the range.
func corners() []api.Point {
	return slices.Repeat(points(-100, -1000, -100, 1000, 100, 1000, 100, -1000), 3)
}

// randomPoints returns points whose X are up to across and whose Y up to up, some
// of them equal and some of them on a line.
func randomPoints(next func(int) int, most, across, up int) []api.Point {
	for {
		var p []api.Point
		slope, at := next(2*up/across+1)-up/across, next(2*up+1)-up
		for n := 2 + next(most-1); len(p) < n; {
			q := api.Point{X: next(2*across+1) - across, Y: next(2*up+1) - up}
			if next(3) == 0 && len(p) > 0 {
				q.X = p[next(len(p))].X
			}
			if next(3) == 0 {
				q.Y = min(max(slope*q.X+at, -up), up)
			}
			if next(8) == 0 && len(p) > 0 {
				q = p[next(len(p))]
			}
			p = append(p, q)
		}
		if slices.ContainsFunc(p, func(q api.Point) bool { return q.X != p[0].X }) {
			return p
		}
	}
}

// smallPoints calls look with all lists of up to 4 points of a small square.
func smallPoints(look func(p []api.Point)) {
	for n := 2; n <= 4; n++ {
		for code := range int(math.Pow(9, float64(n))) {
			var p []api.Point
			for range n {
				p = append(p, api.Point{X: code%3 - 1, Y: code / 3 % 3})
				code /= 9
			}
			if slices.ContainsFunc(p, func(q api.Point) bool { return q.X != p[0].X }) {
				look(p)
			}
		}
	}
}

// manyPoints calls look with random points of all sizes and with those at the limits.
func manyPoints(seed int64, times int, look func(p []api.Point, next func(int) int)) {
	next := rand.New(rand.NewSource(seed)).Intn
	for range times {
		look(randomPoints(next, []int{2, 4, 7, api.MaxPoints}[next(4)], []int{1, 2, 9, api.MaxAcross}[next(4)], []int{2, 9, 50, api.MaxUp}[next(4)]), next)
	}
	for _, p := range [][]api.Point{
		first(), second(), row(2), row(api.MaxPoints), corners(), corners()[:5], corners()[1:3],
		points(-100, -1000, 100, 1000), points(-100, 1000, 100, -1000), points(0, 0, 1, 0),
		slices.Repeat(points(3, 4, 5, 6), 6), append(slices.Repeat(points(3, 4), 11), points(4, 4)...),
		append(slices.Repeat(points(100, 1000), 11), points(-100, -1000)...),
	} {
		look(p, next)
	}
}

// randomLine returns a line that comes near to points, or is of any kind.
func randomLine(p []api.Point, next func(int) int) api.Line {
	d := 1 + next([]int{1, 5, 10000}[next(3)])
	switch next(4) {
	case 0:
		return api.Line{A: next(2000001) - 1000000, B: next(200000001) - 100000000, D: d}
	case 1:
		return api.Line{A: next(10*d+1) - 5*d, B: next(10*d+1) - 5*d, D: d}
	}
	for {
		a, b := p[next(len(p))], p[next(len(p))]
		if rise, run := b.Y-a.Y, b.X-a.X; run > 0 {
			by := 1 + next(3)
			return api.Line{A: by * rise, B: by*(a.Y*run-a.X*rise) + next(3) - 1, D: by * run}
		}
	}
}

func ratio(n, d int) *big.Rat {
	return big.NewRat(int64(n), int64(d))
}

func absolute(r *big.Rat) *big.Rat {
	return new(big.Rat).Abs(r)
}

func greater(a, b *big.Rat) *big.Rat {
	if a.Cmp(b) >= 0 {
		return a
	}
	return b
}

// lowestTerms returns a ratio as the package returns it.
func lowestTerms(r *big.Rat) api.Ratio {
	return api.Ratio{N: int(r.Num().Int64()), D: int(r.Denom().Int64())}
}

// restOf returns the rest of a point as the chapter defines it.
func restOf(q api.Point, x api.Line) *big.Rat {
	at := new(big.Rat).Add(new(big.Rat).Mul(ratio(x.A, 1), ratio(q.X, 1)), ratio(x.B, 1))
	return new(big.Rat).Sub(ratio(q.Y, 1), at.Quo(at, ratio(x.D, 1)))
}

// costOf and widthOf return the sum and the greatest one of the rests' absolute values.
func costOf(p []api.Point, x api.Line) *big.Rat {
	sum := new(big.Rat)
	for _, q := range p {
		sum.Add(sum, absolute(restOf(q, x)))
	}
	return sum
}

func widthOf(p []api.Point, x api.Line) *big.Rat {
	most := new(big.Rat)
	for _, q := range p {
		most = greater(most, absolute(restOf(q, x)))
	}
	return most
}

func invalidPoints() [][]api.Point {
	bad := [][]api.Point{
		nil, {}, points(1, 1), row(api.MaxPoints + 1), row(100), points(1, 1, 1, 1), points(1, 1, 1, 5, 1, 9), slices.Repeat(points(0, 3), 12),
		points(101, 0, 0, 0), points(0, 0, -101, 0), points(0, 1001, 1, 0), points(0, 0, 1, -1001),
		append(first(), points(0, 1001)...), append(first(), points(101, 0)...),
	}
	for _, n := range extremes {
		bad = append(bad, points(n, 0, 0, 0), points(0, 0, 1, n), points(n, n, n, n), append(second(), points(n, n)...))
	}
	return bad
}

func invalidLines() []api.Line {
	bad := []api.Line{
		{}, {A: 1, B: 1}, {A: 1, B: 1, D: -1}, {D: 10001}, {A: 1000001, D: 1}, {A: -1000001, D: 1}, {B: 100000001, D: 1}, {B: -100000001, D: 1},
	}
	for _, n := range extremes {
		bad = append(bad, api.Line{A: n, D: 1}, api.Line{B: n, D: 1}, api.Line{D: n}, api.Line{A: n, B: n, D: n})
	}
	return bad
}

// sure returns a function that returns its first argument and fails a test if
// there is an error.
func sure[T any](t *testing.T, what string) func(T, api.Errno) T {
	t.Helper()
	return func(x T, err api.Errno) T {
		t.Helper()
		if err != api.OK {
			t.Fatalf("%s: error %d", what, err)
		}
		return x
	}
}

// TestValid: P5.2.
func TestValid(t *testing.T) {
	for _, p := range [][]api.Point{
		first(), second(), row(2), row(api.MaxPoints), corners(), points(0, 0, 1, 0), points(0, 0, 0, 0, 0, 0, 1, 0), points(-100, -1000, 100, 1000), points(5, 5, 6, 5, 5, 5, 6, 5),
	} {
		if !Valid(p) {
			t.Errorf("Valid(%v): false", p)
		}
	}
	for _, p := range invalidPoints() {
		if Valid(p) {
			t.Errorf("Valid(%v): true", p)
		}
	}
	// Only the length of a list says how many points there are.
	if long := row(30); !Valid(long[:12]) || Valid(long[:1]) || Valid(long[:0]) {
		t.Errorf("Valid of a part of a list")
	}
}

// TestValidLine: P5.2.
func TestValidLine(t *testing.T) {
	for _, x := range []api.Line{
		{D: 1}, {D: 10000}, {A: 1000000, B: 100000000, D: 1}, {A: -1000000, B: -100000000, D: 10000}, {A: 2, B: 2, D: 2},
	} {
		if !ValidLine(x) {
			t.Errorf("ValidLine(%v): false", x)
		}
	}
	for _, x := range invalidLines() {
		if ValidLine(x) {
			t.Errorf("ValidLine(%v): true", x)
		}
	}
}

// TestRestsByHand: P5.2.
func TestRestsByHand(t *testing.T) {
	for _, c := range []struct {
		p           []api.Point
		x           api.Line
		rests       []api.Ratio
		cost, width api.Ratio
		on          []int
	}{
		{first(), api.Line{A: 3, D: 2}, []api.Ratio{{N: 0, D: 1}, {N: -3, D: 2}, {N: 0, D: 1}}, api.Ratio{N: 3, D: 2}, api.Ratio{N: 3, D: 2}, []int{0, 2}},
		{first(), api.Line{A: 6, D: 4}, []api.Ratio{{N: 0, D: 1}, {N: -3, D: 2}, {N: 0, D: 1}}, api.Ratio{N: 3, D: 2}, api.Ratio{N: 3, D: 2}, []int{0, 2}},
		{first(), api.Line{A: 6, B: -3, D: 4}, []api.Ratio{{N: 3, D: 4}, {N: -3, D: 4}, {N: 3, D: 4}}, api.Ratio{N: 9, D: 4}, api.Ratio{N: 3, D: 4}, nil},
		{first(), api.Line{D: 7}, []api.Ratio{{N: 0, D: 1}, {N: 0, D: 1}, {N: 3, D: 1}}, api.Ratio{N: 3, D: 1}, api.Ratio{N: 3, D: 1}, []int{0, 1}},
		{second(), api.Line{A: -1, B: 2, D: 1}, []api.Ratio{{N: -2, D: 1}, {N: 2, D: 1}, {N: 0, D: 1}}, api.Ratio{N: 4, D: 1}, api.Ratio{N: 2, D: 1}, []int{2}},
		{row(12), api.Line{B: 5, D: 1}, slices.Repeat([]api.Ratio{{N: 0, D: 1}}, 12), api.Ratio{N: 0, D: 1}, api.Ratio{N: 0, D: 1}, []int{0, 1, 2, 3, 4, 5, 6, 7, 8, 9, 10, 11}},
		{points(-100, -1000, 100, 1000), api.Line{A: -1000000, B: 100000000, D: 1}, []api.Ratio{{N: -200001000, D: 1}, {N: 1000, D: 1}}, api.Ratio{N: 200002000, D: 1}, api.Ratio{N: 200001000, D: 1}, nil},
		{points(0, 0, 1, 1), api.Line{B: 1, D: 10000}, []api.Ratio{{N: -1, D: 10000}, {N: 9999, D: 10000}}, api.Ratio{N: 1, D: 1}, api.Ratio{N: 9999, D: 10000}, nil},
	} {
		if rests, err := Rests(c.p, c.x); !slices.Equal(rests, c.rests) || err != api.OK {
			t.Errorf("Rests(%v, %v): %v, %d, want %v", c.p, c.x, rests, err, c.rests)
		}
		if cost, err := Cost(c.p, c.x); cost != c.cost || err != api.OK {
			t.Errorf("Cost(%v, %v): %v, %d, want %v", c.p, c.x, cost, err, c.cost)
		}
		if width, err := Width(c.p, c.x); width != c.width || err != api.OK {
			t.Errorf("Width(%v, %v): %v, %d, want %v", c.p, c.x, width, err, c.width)
		}
		if on, err := On(c.p, c.x); !slices.Equal(on, c.on) || err != api.OK {
			t.Errorf("On(%v, %v): %v, %d, want %v", c.p, c.x, on, err, c.on)
		}
	}
}

// TestRests: P5.2 and P5.10.
func TestRests(t *testing.T) {
	manyPoints(1, 1000, func(p []api.Point, next func(int) int) {
		x := randomLine(p, next)
		var rests []api.Ratio
		var on []int
		for n, q := range p {
			r := restOf(q, x)
			rests = append(rests, lowestTerms(r))
			if r.Sign() == 0 {
				on = append(on, n)
			}
		}
		if l, err := Rests(p, x); !slices.Equal(l, rests) || err != api.OK {
			t.Fatalf("Rests(%v, %v): %v, %d, want %v", p, x, l, err, rests)
		}
		if l, err := On(p, x); !slices.Equal(l, on) || err != api.OK {
			t.Fatalf("On(%v, %v): %v, %d, want %v", p, x, l, err, on)
		}
		if cost, err := Cost(p, x); cost != lowestTerms(costOf(p, x)) || err != api.OK {
			t.Fatalf("Cost(%v, %v): %v, %d", p, x, cost, err)
		}
		if width, err := Width(p, x); width != lowestTerms(widthOf(p, x)) || err != api.OK {
			t.Fatalf("Width(%v, %v): %v, %d", p, x, width, err)
		}
	})
}

// TestSlopeByHand: P5.5 and the chapter's second example.
func TestSlopeByHand(t *testing.T) {
	for _, c := range []struct {
		p    []api.Point
		want api.Ratio
	}{
		{first(), api.Ratio{N: 3, D: 2}},                               // of 0, 3/2, 3
		{second(), api.Ratio{N: -3, D: 1}},                             // of -3, 1
		{points(1, 1, 0, 4, 0, 0), api.Ratio{N: -3, D: 1}},             // in another order
		{points(7, 3, 5, 4), api.Ratio{N: -1, D: 2}},                   // of one
		{row(12), api.Ratio{N: 0, D: 1}},                               // of 66 that are 0
		{points(-100, -1000, 100, 1000), api.Ratio{N: 10, D: 1}},       // from corner to corner
		{points(0, 0, 0, 0, 1, 5, 1, 7), api.Ratio{N: 5, D: 1}},        // of 5, 5, 7, 7
		{points(0, 0, 0, 0, 1, 5, 1, 7, 1, 7), api.Ratio{N: 7, D: 1}},  // of 5, 5, 7, 7, 7, 7
		{points(0, 0, 1, 5, 1, 7, 1, 7, 1, -9), api.Ratio{N: 5, D: 1}}, // of -9, 5, 7, 7
		{points(-1, 0, 0, -1, 1, 0, 0, 1), api.Ratio{N: 0, D: 1}},      // of -1, -1, 0, 1, 1
		{points(0, 1, 1, 3, 2, 5, 3, 7, -4, -7), api.Ratio{N: 2, D: 1}},
		{points(0, 1000, 1, -1000, 2, 1000), api.Ratio{N: 0, D: 1}},    // of -2000, 0, 2000
		{points(100, 1000, 99, -1000, 98, 999), api.Ratio{N: 1, D: 2}}, // of -1999, 1/2, 2000
	} {
		if slope, err := Slope(c.p); slope != c.want || err != api.OK {
			t.Errorf("Slope(%v): %v, %d, want %v", c.p, slope, err, c.want)
		}
	}
}

// slopesOf returns the slopes of the lines through all pairs of points, ascending.
func slopesOf(p []api.Point) []*big.Rat {
	var slopes []*big.Rat
	for a := range p {
		for b := range a {
			if p[a].X != p[b].X {
				slopes = append(slopes, ratio(p[a].Y-p[b].Y, p[a].X-p[b].X))
			}
		}
	}
	slices.SortFunc(slopes, func(a, b *big.Rat) int { return a.Cmp(b) })
	return slopes
}

// TestSlope: P5.5 and P5.9.
func TestSlope(t *testing.T) {
	manyPoints(2, 1000, func(p []api.Point, next func(int) int) {
		slopes := slopesOf(p)
		for len(slopes) > 2 {
			slopes = slopes[1 : len(slopes)-1]
		}
		want := lowestTerms(slopes[0])
		if slope, err := Slope(p); slope != want || err != api.OK {
			t.Fatalf("Slope(%v): %v, %d, want %v", p, slope, err, want)
		}
		turned := sure[[]api.Point](t, "Turned")(Turned(p))
		if slope, err := Slope(turned); len(slopes) == 1 && slope != (api.Ratio{N: -want.N, D: want.D}) || err != api.OK {
			t.Fatalf("Slope(%v): %v, %d, but %v of those that are not turned", turned, slope, err, want)
		}
		by := next(41) - 20
		if raised, err := Raised(p, by, next(5)-2); err == api.OK {
			if slope, err := Slope(raised); slope != (api.Ratio{N: want.N + by*want.D, D: want.D}) || err != api.OK {
				t.Fatalf("Slope(%v): %v, %d, want %d more than %v", raised, slope, err, by, want)
			}
		}
	})
}

// TestRaisedByHand: P5.6.
func TestRaisedByHand(t *testing.T) {
	steep := points(-1, 1000, 0, -1000, 1, 1000)
	tall := points(100, 1000, 99, -1000)
	for _, c := range []struct {
		p         []api.Point
		slope, up int
		want      []api.Point // none: it is ErrArg
	}{
		{first(), 0, 0, first()},
		{first(), 2, -1, points(0, -1, 1, 1, 2, 6)},
		{second(), -3, 7, points(0, 7, 0, 11, 1, 5)},
		{first(), 0, 997, points(0, 997, 1, 997, 2, 1000)},
		{first(), 0, 998, nil},
		{first(), 0, -1000, points(0, -1000, 1, -1000, 2, -997)},
		{first(), 0, -1001, nil},
		{first(), 498, 0, points(0, 0, 1, 498, 2, 999)},
		{first(), 499, 0, nil},
		{first(), 499, -1, points(0, -1, 1, 498, 2, 1000)},
		{first(), -501, 0, points(0, 0, 1, -501, 2, -999)},
		{first(), -502, 0, nil},
		{steep, 1, 0, nil},
		{steep, -1, 0, nil},
		{points(1, 1000, 0, -1000), -4000, 2000, points(1, -1000, 0, 1000)},
		{points(1, 1000, 0, -1000), -4000, 2001, nil},
		{tall, -4000, 399000, nil},
		{tall, -4000, 398000, points(100, -1000, 99, 1000)},
		{tall, -4001, 398100, nil},
		{points(100, -1000, 99, 1000), 4000, -398000, tall},
		{points(-100, -1000, -99, 1000), -4000, -398000, points(-100, 1000, -99, -1000)},
		{points(0, -1000, 1, 1000), -4000, 2000, points(0, 1000, 1, -1000)},
		{points(0, -1000, -1, 1000), 4000, 2000, points(0, 1000, -1, -1000)},
		{corners()[:4], 0, 0, corners()[:4]},
		{corners()[:4], 0, 1, nil},
		{corners()[:4], 0, -1, nil},
		{points(-100, 1000, 100, -1000), 20, 0, points(-100, -1000, 100, 1000)},
	} {
		want := api.OK
		if c.want == nil {
			want = api.ErrArg
		}
		if raised, err := Raised(c.p, c.slope, c.up); !slices.Equal(raised, c.want) || err != want {
			t.Errorf("Raised(%v, %d, %d): %v, %d, want %v", c.p, c.slope, c.up, raised, err, c.want)
		}
	}
	for _, n := range append([]int{401000, -401000, 402001, -402001, 1 << 32, 1 << 62}, extremes...) {
		for _, c := range [][2]int{{n, 0}, {0, n}, {n, n}, {n, -n}, {-n, n}, {1, n}, {n, 1}} {
			for _, p := range [][]api.Point{first(), row(2), tall, corners(), points(-64, 0, 64, 0), points(0, 0, 64, 0, -64, 0)} {
				if raised, err := Raised(p, c[0], c[1]); raised != nil || err != api.ErrArg {
					t.Errorf("Raised(%v, %v): %v, %d", p, c, raised, err)
				}
			}
		}
	}
}

// TestRaised: P5.6 and P5.9, there and back.
func TestRaised(t *testing.T) {
	manyPoints(3, 1000, func(p []api.Point, next func(int) int) {
		slope, up := next(21)-10, next(401)-200
		var want []api.Point
		out := api.OK
		for _, q := range p {
			q.Y += slope*q.X + up
			want = append(want, q)
			if q.Y > api.MaxUp || q.Y < -api.MaxUp {
				out = api.ErrArg
			}
		}
		raised, err := Raised(p, slope, up)
		if err != out || err == api.OK && !slices.Equal(raised, want) || err != api.OK && raised != nil {
			t.Fatalf("Raised(%v, %d, %d): %v, %d", p, slope, up, raised, err)
		}
		if err == api.OK {
			if back, err := Raised(raised, -slope, -up); !slices.Equal(back, p) || err != api.OK {
				t.Fatalf("Raised(%v, %d, %d): %v, %d", raised, -slope, -up, back, err)
			}
		}
	})
}

// TestTurned: P5.6.
func TestTurned(t *testing.T) {
	for _, c := range [][2][]api.Point{
		{first(), points(0, 0, -1, 0, -2, 3)},
		{second(), points(0, 0, 0, 4, -1, 1)},
		{points(-100, -1000, 100, 1000, 7, 9), points(100, -1000, -100, 1000, -7, 9)},
	} {
		if turned, err := Turned(c[0]); !slices.Equal(turned, c[1]) || err != api.OK {
			t.Errorf("Turned(%v): %v, %d, want %v", c[0], turned, err, c[1])
		}
		if back, err := Turned(c[1]); !slices.Equal(back, c[0]) || err != api.OK {
			t.Errorf("Turned(%v): %v, %d, want %v", c[1], back, err, c[0])
		}
	}
}

// TestThroughByHand: P5.6.
func TestThroughByHand(t *testing.T) {
	for _, c := range []struct {
		p    []api.Point
		want api.Line
	}{
		{points(0, 0, 2, 3), api.Line{A: 3, B: 0, D: 2}},
		{points(0, 0, 2, 4), api.Line{A: 2, B: 0, D: 1}},
		{points(1, 1, 3, 2), api.Line{A: 1, B: 1, D: 2}},
		{points(5, 7, -5, 7), api.Line{A: 0, B: 7, D: 1}},
		{points(5, 0, -50, 0), api.Line{A: 0, B: 0, D: 1}},
		{points(0, 5, 4, -1), api.Line{A: -3, B: 10, D: 2}},
		{points(-100, -1000, 100, 1000), api.Line{A: 10, B: 0, D: 1}},
		{points(99, -1000, 100, 1000), api.Line{A: 2000, B: -199000, D: 1}},
		{points(-99, -1000, -100, 1000), api.Line{A: -2000, B: -199000, D: 1}},
		{points(-100, 999, 99, 1000), api.Line{A: 1, B: 198901, D: 199}},
	} {
		for _, q := range [][]api.Point{c.p, {c.p[1], c.p[0]}} {
			if x, err := Through(q[0], q[1]); x != c.want || err != api.OK {
				t.Errorf("Through(%v): %v, %d, want %v", q, x, err, c.want)
			}
		}
	}
	for _, q := range [][]api.Point{points(0, 0, 0, 0), points(3, 4, 3, 5), points(-100, 1000, -100, -1000)} {
		if x, err := Through(q[0], q[1]); x != (api.Line{}) || err != api.ErrNone {
			t.Errorf("Through(%v): %v, %d", q, x, err)
		}
	}
	for _, n := range append([]int{1001, -1001, 5000}, extremes...) {
		for _, q := range [][]api.Point{points(n, 0, 0, 0), points(0, n, 1, 0), points(0, 0, n, 0), points(0, 0, 1, n), points(n, 0, n, 0), points(0, n, 0, 0), points(1, 1, 1, n)} {
			if x, err := Through(q[0], q[1]); x != (api.Line{}) || err != api.ErrPoints {
				t.Errorf("Through(%v): %v, %d", q, x, err)
			}
		}
	}
	for _, q := range [][]api.Point{points(101, 0, 0, 0), points(0, 0, -101, 0), points(101, 3, 101, 4)} {
		if x, err := Through(q[0], q[1]); x != (api.Line{}) || err != api.ErrPoints {
			t.Errorf("Through(%v): %v, %d", q, x, err)
		}
	}
}

// divisor returns the greatest number that divides some others, not all of them 0.
func divisor(numbers ...int) int {
	all := new(big.Int)
	for _, n := range numbers {
		all.GCD(nil, nil, all, new(big.Int).Abs(big.NewInt(int64(n))))
	}
	return int(all.Int64())
}

// TestThrough: P5.6.
func TestThrough(t *testing.T) {
	manyPoints(4, 1000, func(p []api.Point, next func(int) int) {
		a, b := p[0], p[len(p)-1]
		x, err := Through(a, b)
		if a.X == b.X {
			if x != (api.Line{}) || err != api.ErrNone {
				t.Fatalf("Through(%v, %v): %v, %d", a, b, x, err)
			}
			return
		}
		if err != api.OK || !ValidLine(x) || restOf(a, x).Sign() != 0 || restOf(b, x).Sign() != 0 || divisor(x.A, x.B, x.D) != 1 {
			t.Fatalf("Through(%v, %v): %v, %d", a, b, x, err)
		}
		if back, err := Through(b, a); back != x || err != api.OK {
			t.Fatalf("Through(%v, %v): %v, %d", b, a, back, err)
		}
	})
}

// TestErrorsOfPoints: P5.1, ErrPoints is in front of all others.
func TestErrorsOfPoints(t *testing.T) {
	for _, p := range invalidPoints() {
		for _, x := range []api.Line{{}, {D: 1}} {
			rests, a := Rests(p, x)
			cost, b := Cost(p, x)
			width, c := Width(p, x)
			on, d := On(p, x)
			if rests != nil || cost != (api.Ratio{}) || width != (api.Ratio{}) || on != nil {
				t.Errorf("results for %v, %v", p, x)
			}
			if errs := []api.Errno{a, b, c, d}; !slices.Equal(errs, slices.Repeat([]api.Errno{api.ErrPoints}, 4)) {
				t.Errorf("errors for %v, %v: %v", p, x, errs)
			}
		}
		least, a := Least(p)
		x, b := Line(p)
		weights, m, c := Weights(p)
		is, d := Proves(p, nil, 0, api.Ratio{})
		narrowest, e := Narrowest(p)
		axis, f := Axis(p)
		witness, g := Witness(p)
		told, h := Tells(p, nil)
		slope, i := Slope(p)
		raised, j := Raised(p, math.MaxInt, math.MaxInt)
		turned, k := Turned(p)
		if least != (api.Ratio{}) || x != (api.Line{}) || weights != nil || m != 0 || is || narrowest != (api.Ratio{}) || axis != (api.Line{}) ||
			witness != nil || told != (api.Ratio{}) || slope != (api.Ratio{}) || raised != nil || turned != nil {
			t.Errorf("results for %v", p)
		}
		if errs := []api.Errno{a, b, c, d, e, f, g, h, i, j, k}; !slices.Equal(errs, slices.Repeat([]api.Errno{api.ErrPoints}, 11)) {
			t.Errorf("errors for %v: %v", p, errs)
		}
	}
}

// TestErrorsOfLines: P5.1 and P5.2.
func TestErrorsOfLines(t *testing.T) {
	for _, x := range invalidLines() {
		rests, a := Rests(first(), x)
		cost, b := Cost(first(), x)
		width, c := Width(first(), x)
		on, d := On(first(), x)
		if rests != nil || cost != (api.Ratio{}) || width != (api.Ratio{}) || on != nil {
			t.Errorf("results for %v", x)
		}
		if errs := []api.Errno{a, b, c, d}; !slices.Equal(errs, slices.Repeat([]api.Errno{api.ErrLine}, 4)) {
			t.Errorf("errors for %v: %v", x, errs)
		}
	}
}

// again calls a function twice and overwrites what it gave first in between.
func again[T comparable](t *testing.T, what string, f func() []T, other T) {
	t.Helper()
	once := f()
	kept := slices.Clone(once)
	for n := range once {
		once[n] = other
	}
	for n := range once[:cap(once)] {
		once[:cap(once)][n] = other
	}
	if twice := f(); !slices.Equal(kept, twice) || len(twice) == 0 {
		t.Errorf("%s: %v, then %v", what, kept, twice)
	}
}

// TestMemory: rule R4, arguments stay and results are new memory.
func TestMemory(t *testing.T) {
	long := append(corners()[:5], points(200, 5000, 4, 4)...)
	p := long[:5]
	was := slices.Clone(long)
	x := api.Line{A: 10, D: 1}
	for _, f := range []func() []api.Point{
		func() []api.Point { return sure[[]api.Point](t, "Raised")(Raised(p, 0, 0)) },
		func() []api.Point { return sure[[]api.Point](t, "Turned")(Turned(p)) },
	} {
		again(t, "points", f, api.Point{X: -77, Y: -77})
	}
	again(t, "Rests", func() []api.Ratio { return sure[[]api.Ratio](t, "Rests")(Rests(p, x)) }, api.Ratio{N: -77})
	again(t, "On", func() []int { return sure[[]int](t, "On")(On(p, x)) }, -77)
	again(t, "Witness", func() []int { return sure[[]int](t, "Witness")(Witness(p)) }, -77)
	again(t, "Weights", func() []int {
		weights, _, err := Weights(p)
		return sure[[]int](t, "Weights")(weights, err)
	}, -77)
	weights, witness := []int{1, 2, 3, 4, 5}, []int{4, 2, 3}
	Proves(p, weights, 5, api.Ratio{N: 1, D: 1})
	Tells(p, witness)
	Least(p)
	Line(p)
	Narrowest(p)
	Axis(p)
	Slope(p)
	Cost(p, x)
	Width(p, x)
	if !slices.Equal(long, was) || !slices.Equal(weights, []int{1, 2, 3, 4, 5}) || !slices.Equal(witness, []int{4, 2, 3}) {
		t.Errorf("changed: %v, %v, %v", long, weights, witness)
	}
}
