package sky

import (
	"math/rand"
	"slices"
	"testing"

	"firn/api"
)

// sky0 is how many pixels of the order MaxOrder there are.
const sky0 = 3072

// taken says of each pixel of the order MaxOrder whether it is taken.
type taken [sky0]bool

// lies reports whether a pixel of the order MaxOrder is one of a cell.
func lies(pixel int, c api.Cell) bool {
	for range api.MaxOrder - c.Order {
		pixel /= 4
	}
	return pixel == c.Pixel
}

// take returns which pixels cells have.
func take(cells []api.Cell) taken {
	var is taken
	for _, c := range cells {
		from := c.Pixel
		for range api.MaxOrder - c.Order {
			from *= 4
		}
		for pixel := from; pixel < sky0 && lies(pixel, c); pixel++ {
			is[pixel] = true
		}
	}
	return is
}

// holds reports whether all pixels, or none, of a cell are taken.
func holds(is *taken, c api.Cell) (all, none bool) {
	if c.Order == api.MaxOrder {
		return is[c.Pixel], !is[c.Pixel]
	}
	all, none = true, true
	for n := range 4 {
		a, b := holds(is, api.Cell{Order: c.Order + 1, Pixel: 4*c.Pixel + n})
		all, none = all && a, none && b
	}
	return all, none
}

// within returns the set with the pixels of a cell that are taken.
func within(is *taken, c api.Cell) []api.Cell {
	all, none := holds(is, c)
	if none {
		return nil
	}
	if all {
		return []api.Cell{c}
	}
	var l []api.Cell
	for n := range 4 {
		l = append(l, within(is, api.Cell{Order: c.Order + 1, Pixel: 4*c.Pixel + n})...)
	}
	return l
}

// setOf returns the set with the pixels that are taken, of however many cells.
func setOf(is taken) []api.Cell {
	var l []api.Cell
	for face := range 12 {
		l = append(l, within(&is, api.Cell{Pixel: face})...)
	}
	return l
}

// isCell reports whether there is such a cell.
func isCell(c api.Cell) bool {
	return c.Order >= 0 && c.Order < len(counts) && c.Pixel >= 0 && c.Pixel < counts[c.Order]
}

// ancestor reports whether a cell is another one or has it.
func ancestor(c, d api.Cell) bool {
	for ; d.Order > c.Order; d.Order-- {
		d.Pixel /= 4
	}
	return c == d
}

// isSet reports whether a list is a set, by the terms of the chapter.
func isSet(l []api.Cell) bool {
	if len(l) > 400 || slices.ContainsFunc(l, func(c api.Cell) bool { return !isCell(c) }) {
		return false
	}
	for n, c := range l {
		siblings := 0
		for m, d := range l {
			if m != n && (ancestor(c, d) || ancestor(d, c)) {
				return false
			}
			if m < n && d.Pixel<<(8-2*d.Order) >= c.Pixel<<(8-2*c.Order) {
				return false
			}
			if c.Order > 0 && d.Order == c.Order && d.Pixel/4 == c.Pixel/4 {
				siblings++
			}
		}
		if siblings == 4 {
			return false
		}
	}
	return true
}

// cells returns cells of an order.
func cells(order int, numbers ...int) []api.Cell {
	var l []api.Cell
	for _, pixel := range numbers {
		l = append(l, api.Cell{Order: order, Pixel: pixel})
	}
	return l
}

// apart returns n pixels of the order MaxOrder of which no four are the children
// of one cell: up to three of each.
func apart(n int) []api.Cell {
	var l []api.Cell
	for pixel := 0; len(l) < n; pixel++ {
		if pixel%4 != 3 {
			l = append(l, api.Cell{Order: api.MaxOrder, Pixel: pixel})
		}
	}
	return l
}

// much returns n cells of a face of which none can be a part of a larger one.
func much(face, n int) []api.Cell {
	l := apart(n)
	for k := range l {
		l[k].Pixel += 256 * face
	}
	return l
}

// holes returns n pixels of the order MaxOrder, each of another pixel of the order
// below. What is around each of them is three cells.
func holes(n int) []api.Cell {
	var l []api.Cell
	for k := range n {
		l = append(l, api.Cell{Order: api.MaxOrder, Pixel: 4*k + 2})
	}
	return l
}

// whole returns the set that has all pixels.
func whole() []api.Cell {
	return cells(0, 0, 1, 2, 3, 4, 5, 6, 7, 8, 9, 10, 11)
}

// randomCells returns up to most cells of some orders, that come near each other
// or not.
func randomCells(next func(int) int, most int) []api.Cell {
	var l []api.Cell
	least, near := next(5), next(3) == 0
	for n := next(most + 1); len(l) < n; {
		order := least + next(api.MaxOrder+1-least)
		c := api.Cell{Order: order, Pixel: next(counts[order])}
		if near {
			c.Pixel = next(min(counts[order], 40))
		}
		l = append(l, c)
		if next(6) == 0 && order > 0 {
			for n := range 4 {
				l = append(l, api.Cell{Order: order, Pixel: c.Pixel/4*4 + n})
			}
		}
	}
	return l
}

// randomSet returns a set of up to most cells.
func randomSet(next func(int) int, most int) []api.Cell {
	for {
		if l := setOf(take(randomCells(next, most))); len(l) <= most {
			return l
		}
	}
}

// manySets calls look with two random sets of all sizes, and with those at the limits.
func manySets(seed int64, times int, look func(l, m []api.Cell, next func(int) int)) {
	next := rand.New(rand.NewSource(seed)).Intn
	sizes := []int{0, 3, 12, 60, 400}
	for range times {
		look(randomSet(next, sizes[next(5)]), randomSet(next, sizes[next(5)]), next)
	}
	all := [][]api.Cell{
		nil, cells(0, 0), cells(0, 11), whole(), cells(4, 0), cells(4, 3071), holes(100), holes(400),
		append(much(0, 192), cells(0, 1, 2)...), append(cells(0, 0), much(1, 300)...),
		cells(0, 0, 1, 2, 3, 4, 5), cells(0, 6, 7, 8, 9, 10, 11), apart(400), cells(4, 0, 1, 2), cells(4, 3), cells(3, 0), cells(1, 47),
	}
	for _, l := range all {
		for _, m := range all {
			look(slices.Clone(l), slices.Clone(m), next)
		}
	}
}

// notSets are lists that are no sets.
func notSets() [][]api.Cell {
	bad := [][]api.Cell{
		cells(4, 0, 1, 2, 3), cells(1, 0, 1, 2, 3), cells(2, 4, 5, 6, 7, 9), cells(0, 1, 0), cells(0, 5, 5), cells(4, 9, 9),
		append(cells(0, 0), cells(1, 3)...), append(cells(0, 0), cells(4, 0)...), append(cells(4, 0), cells(0, 0)...), append(cells(1, 3), cells(0, 0)...),
		append(cells(4, 255), cells(0, 0)...), append(cells(0, 1), cells(4, 255)...), append(cells(1, 4), cells(0, 0)...), append(cells(3, 17), cells(4, 67)...),
		apart(401), apart(1000), slices.Repeat(cells(0, 0), 100000), append(apart(400), cells(0, 11)...), append(cells(1, 0, 1, 2), cells(2, 12, 13, 14, 15)...),
	}
	for order := range counts {
		for _, pixel := range badNumbers(order) {
			bad = append(bad, cells(order, pixel), cells(order, 0, pixel), append(cells(order, pixel), cells(0, 0)...))
		}
	}
	for _, order := range badOrders {
		bad = append(bad, cells(order, 0), cells(order, order), append(cells(0, 0), cells(order, 11)...))
	}
	return bad
}

// TestValid: P6.5.
func TestValid(t *testing.T) {
	for _, l := range [][]api.Cell{
		nil, {}, cells(0, 0), cells(0, 0, 1, 2, 3), whole(), cells(4, 0, 1, 2), cells(4, 1, 2, 3, 4), cells(4, 2, 3, 4, 5), cells(4, 3071),
		append(cells(0, 0), cells(4, 256)...), append(cells(4, 255), cells(0, 1)...), append(cells(3, 16), cells(4, 68)...), append(cells(1, 0, 1, 2), cells(2, 12, 13, 14)...), apart(400),
	} {
		if !Valid(l) {
			t.Errorf("Valid(%v): false", l)
		}
	}
	for _, l := range notSets() {
		if Valid(l) {
			t.Errorf("Valid(%.80v): true", l)
		}
	}
	// Only the length of a list says which cells it has.
	if long := apart(500); !Valid(long[:400]) || !Valid(long[:0]) {
		t.Errorf("Valid of a part of a list")
	}
}

// TestValidOfMany: P6.5, sets, and what they become when they are changed.
func TestValidOfMany(t *testing.T) {
	hold := func(l []api.Cell) {
		t.Helper()
		if want := isSet(l); Valid(l) != want {
			t.Fatalf("Valid(%v): %v", l, !want)
		}
	}
	manySets(1, 300, func(l, m []api.Cell, next func(int) int) {
		hold(l)
		hold(randomCells(next, 4))
		for range 5 {
			changed := slices.Clone(l)
			if len(l) > 0 {
				n := next(len(l))
				changed[n].Pixel += next(9) - 4
				changed[n].Order += next(3) - 1
			}
			hold(changed)
			if len(l) > 1 {
				a, b := next(len(l)), next(len(l))
				swapped := slices.Clone(l)
				swapped[a], swapped[b] = l[b], l[a]
				hold(swapped)
				hold(slices.Insert(slices.Clone(l), a, l[b]))
				hold(slices.Delete(slices.Clone(l), a, a+1))
			}
		}
	})
}

// TestSet: P6.5, and the chapter's third example.
func TestSet(t *testing.T) {
	for order := range api.MaxOrder {
		for pixel := range counts[order] {
			children := sure[[]int](t, "Children")(Children(order, pixel))
			l, err := Set(cells(order+1, children[2], children[0], children[3], children[1]))
			if !slices.Equal(l, cells(order, pixel)) || err != api.OK {
				t.Fatalf("Set of the children of %d, %d: %v, %d", order, pixel, l, err)
			}
		}
	}
	next := rand.New(rand.NewSource(2)).Intn
	for range 2000 {
		given := randomCells(next, []int{2, 10, 100, 400, 3000}[next(5)])
		before := slices.Clone(given)
		want := setOf(take(given))
		l, err := Set(given)
		if len(want) > 400 && (len(l) != 0 || err != api.ErrLimit) || len(want) <= 400 && (!slices.Equal(l, want) || err != api.OK || !isSet(l)) {
			t.Fatalf("Set(%v): %v, %d, want %v", given, l, err, want)
		}
		if !slices.Equal(given, before) {
			t.Fatalf("Set(%v) changes it to %v", before, given)
		}
	}
}

// TestLimitsOfSet: P6.1 and P6.5.
func TestLimitsOfSet(t *testing.T) {
	for _, c := range []struct {
		given []api.Cell
		n     int
		err   api.Errno
	}{
		{nil, 0, api.OK},
		{apart(400), 400, api.OK},
		{apart(401), 0, api.ErrLimit},
		{append(apart(401), cells(4, 3)...), 399, api.OK},
		{slices.Repeat(cells(0, 3), 4000), 1, api.OK},
		{slices.Repeat(cells(0, 3), 4001), 0, api.ErrArg},
		{slices.Repeat(apart(400), 10), 400, api.OK},
		{append(slices.Repeat(apart(400), 10), apart(1)...), 0, api.ErrArg},
		{append(apart(2000), apart(2000)...), 0, api.ErrLimit},
		{append(apart(2000), apart(2001)...), 0, api.ErrArg},
		{append(apart(1000), cells(4, 3072)...), 0, api.ErrArg},
		{append(apart(1000), whole()...), 12, api.OK},
	} {
		if l, err := Set(c.given); len(l) != c.n || err != c.err {
			t.Errorf("Set of %d cells: %d cells, %d, want %d, %d", len(c.given), len(l), err, c.n, c.err)
		}
	}
	bad := badCells()
	for _, c := range bad {
		for _, given := range [][]api.Cell{{c}, append(cells(0, 0), c), append([]api.Cell{c}, apart(500)...)} {
			if l, err := Set(given); len(l) != 0 || err != api.ErrArg {
				t.Errorf("Set with %v: %v, %d", c, l, err)
			}
		}
	}
}

// badCells are none.
func badCells() []api.Cell {
	var bad []api.Cell
	for order := range counts {
		bad = append(bad, cells(order, badNumbers(order)...)...)
	}
	for _, order := range badOrders {
		bad = append(bad, cells(order, append([]int{0, 11}, extremes...)...)...)
	}
	return bad
}

// TestHasAndSize: P6.5.
func TestHasAndSize(t *testing.T) {
	manySets(3, 60, func(l, _ []api.Cell, next func(int) int) {
		is := take(l)
		asked := append(append(whole(), randomCells(next, 60)...), l...)
		for _, c := range l {
			if c.Order > 0 {
				asked = append(asked, api.Cell{Order: c.Order - 1, Pixel: c.Pixel / 4})
			}
			if c.Order < api.MaxOrder {
				asked = append(asked, api.Cell{Order: c.Order + 1, Pixel: 4*c.Pixel + next(4)})
			}
		}
		for _, c := range asked {
			want, _ := holds(&is, c)
			if has, err := Has(l, c); has != want || err != api.OK {
				t.Fatalf("Has(%v, %v): %v, %d, want %v", l, c, has, err, want)
			}
		}
		want := 0
		for _, has := range is {
			if has {
				want++
			}
		}
		if n, err := Size(l); n != want || err != api.OK {
			t.Fatalf("Size(%v): %d, %d, want %d", l, n, err, want)
		}
	})
	l := append(cells(1, 0, 1, 2), cells(2, 12, 13, 14)...)
	for _, c := range []struct {
		c    api.Cell
		want bool
	}{
		{api.Cell{Order: 1, Pixel: 2}, true}, {api.Cell{Order: 3, Pixel: 59}, true}, {api.Cell{Order: 4, Pixel: 239}, true},
		{api.Cell{Order: 0, Pixel: 0}, false}, {api.Cell{Order: 1, Pixel: 3}, false}, {api.Cell{Order: 4, Pixel: 240}, false}, {api.Cell{Order: 0, Pixel: 1}, false},
	} {
		if has, err := Has(l, c.c); has != c.want || err != api.OK {
			t.Errorf("Has(%v, %v): %v, %d", l, c.c, has, err)
		}
	}
	if n, err := Size(l); n != 3*64+3*16 || err != api.OK {
		t.Errorf("Size(%v): %d, %d", l, n, err)
	}
}

// TestErrorsOfSets: P6.1, that a set is none comes first.
func TestErrorsOfSets(t *testing.T) {
	good := cells(0, 3)
	bad := badCells()
	for _, l := range notSets() {
		for name, call := range map[string]func() ([]api.Cell, api.Errno){
			"Join":                func() ([]api.Cell, api.Errno) { return Join(l, good) },
			"Join of another":     func() ([]api.Cell, api.Errno) { return Join(good, l) },
			"Both":                func() ([]api.Cell, api.Errno) { return Both(l, nil) },
			"Both of another":     func() ([]api.Cell, api.Errno) { return Both(nil, l) },
			"Without":             func() ([]api.Cell, api.Errno) { return Without(l, good) },
			"Without another":     func() ([]api.Cell, api.Errno) { return Without(good, l) },
			"Rest":                func() ([]api.Cell, api.Errno) { return Rest(l) },
			"Coarse":              func() ([]api.Cell, api.Errno) { return Coarse(l, 2) },
			"Coarse of no order":  func() ([]api.Cell, api.Errno) { return Coarse(l, 5) },
			"Coarse of the least": func() ([]api.Cell, api.Errno) { return Coarse(l, -1) },
		} {
			if m, err := call(); len(m) != 0 || err != api.ErrCells {
				t.Errorf("%s of %.80v: %v, %d", name, l, m, err)
			}
		}
		if n, err := Size(l); n != 0 || err != api.ErrCells {
			t.Errorf("Size(%.80v): %d, %d", l, n, err)
		}
		for _, c := range []api.Cell{{}, {Order: 4, Pixel: 3071}, bad[0], bad[len(bad)-1]} {
			if has, err := Has(l, c); has || err != api.ErrCells {
				t.Errorf("Has(%.80v, %v): %v, %d", l, c, has, err)
			}
		}
	}
	for _, c := range bad {
		if has, err := Has(whole(), c); has || err != api.ErrArg {
			t.Errorf("Has of %v: %v, %d", c, has, err)
		}
	}
	for _, order := range badOrders {
		if l, err := Coarse(whole(), order); len(l) != 0 || err != api.ErrArg {
			t.Errorf("Coarse of the order %d: %v, %d", order, l, err)
		}
		if l, err := Coarse(nil, order); len(l) != 0 || err != api.ErrArg {
			t.Errorf("Coarse of the order %d: %v, %d", order, l, err)
		}
	}
}

// TestMixed: P6.6, pixel by pixel.
func TestMixed(t *testing.T) {
	calls := []struct {
		name string
		call func(l, m []api.Cell) ([]api.Cell, api.Errno)
		want func(a, b bool) bool
	}{
		{"Join", Join, func(a, b bool) bool { return a || b }},
		{"Both", Both, func(a, b bool) bool { return a && b }},
		{"Without", Without, func(a, b bool) bool { return a && !b }},
		{"Rest", func(l, _ []api.Cell) ([]api.Cell, api.Errno) { return Rest(l) }, func(a, _ bool) bool { return !a }},
	}
	limits := map[string]int{}
	manySets(4, 400, func(l, m []api.Cell, next func(int) int) {
		a, b := slices.Clone(l), slices.Clone(m)
		for _, c := range calls {
			is, other := take(l), take(m)
			for pixel := range is {
				is[pixel] = c.want(is[pixel], other[pixel])
			}
			want := setOf(is)
			got, err := c.call(l, m)
			if len(want) > 400 {
				limits[c.name]++
				if len(got) != 0 || err != api.ErrLimit {
					t.Fatalf("%s(%v, %v): %v, %d", c.name, l, m, got, err)
				}
			} else if !slices.Equal(got, want) || err != api.OK {
				t.Fatalf("%s(%v, %v): %v, %d, want %v", c.name, l, m, got, err, want)
			}
			clear(got[:cap(got)])
			if !slices.Equal(l, a) || !slices.Equal(m, b) {
				t.Fatalf("%s(%v, %v) changes them to %v, %v", c.name, a, b, l, m)
			}
		}
	})
	for _, name := range []string{"Join", "Both", "Without", "Rest"} {
		if limits[name] == 0 {
			t.Errorf("%s: no sets are too large", name)
		}
	}
}

// TestLimits: P6.1 and P6.6, sets that have just as many cells as can be, and more.
func TestLimits(t *testing.T) {
	if l, err := Join(apart(399), cells(4, 3071)); len(l) != 400 || err != api.OK {
		t.Errorf("Join of 399 and 1: %d cells, %d", len(l), err)
	}
	if l, err := Join(apart(400), cells(4, 3071)); len(l) != 0 || err != api.ErrLimit {
		t.Errorf("Join of 400 and 1: %d cells, %d", len(l), err)
	}
	if l, err := Join(apart(400), cells(0, 0)); len(l) != 1+208 || err != api.OK {
		t.Errorf("Join of 400 and a face: %d cells, %d", len(l), err)
	}
	// One has much of the face 0 and the faces 4 and 5, the other one the face 0 and
	// much of these: both have more cells together than either of them.
	for _, c := range []struct {
		n, m, cells int
		err         api.Errno
	}{{192, 208, 400, api.OK}, {192, 209, 0, api.ErrLimit}, {100, 300, 400, api.OK}, {192, 300, 0, api.ErrLimit}} {
		l := append(much(0, c.n), cells(0, 4, 5)...)
		m := append(cells(0, 0), much(4, c.m)...)
		if both, err := Both(l, m); len(both) != c.cells || err != c.err {
			t.Errorf("Both with %d and %d: %d cells, %d", c.n, c.m, len(both), err)
		}
	}
}

// TestLimitsOfRest: P6.1 and P6.6, also for what is without a set.
func TestLimitsOfRest(t *testing.T) {
	sizes := map[bool]int{}
	for n := range 400 {
		is := take(holes(n))
		for pixel := range is {
			is[pixel] = !is[pixel]
		}
		want := setOf(is)
		large := len(want) > 400
		sizes[large]++
		rest, err := Rest(holes(n))
		if large && (len(rest) != 0 || err != api.ErrLimit) || !large && (!slices.Equal(rest, want) || err != api.OK) {
			t.Errorf("Rest of %d holes: %d cells, %d, want %d", n, len(rest), err, len(want))
		}
		without, again := Without(whole(), holes(n))
		if !slices.Equal(without, rest) || again != err {
			t.Errorf("Without %d holes: %d cells, %d, want %d", n, len(without), again, len(want))
		}
	}
	if sizes[true] == 0 || sizes[false] == 0 {
		t.Errorf("too large, or not: %v", sizes)
	}
	// The face 0 has 192 cells, its rest as many as holes are left: of these both
	// together have just as many as can be, or one more.
	for _, c := range []struct {
		n   int
		err api.Errno
	}{{208, api.OK}, {209, api.ErrLimit}} {
		l := append(much(0, 192), cells(0, 4, 5)...)
		m := sure[[]api.Cell](t, "Without")(Without(cells(0, 4, 5), much(4, c.n)))
		if got, err := Without(l, m); err != c.err || err == api.OK && len(got) != 400 {
			t.Errorf("Without: %d cells, %d, want %d", len(got), err, c.err)
		}
	}
}

// TestRulesOfSets: P6.9.
func TestRulesOfSets(t *testing.T) {
	same := func(what string, l, m []api.Cell, a, b api.Errno) {
		t.Helper()
		if a == api.OK && b == api.OK && !slices.Equal(l, m) {
			t.Fatalf("%s: %v, and %v", what, l, m)
		}
	}
	manySets(5, 400, func(l, m []api.Cell, next func(int) int) {
		k := randomSet(next, 40)
		join, a := Join(l, m)
		nioj, b := Join(m, l)
		same("Join", join, nioj, a, b)
		both, c := Both(l, m)
		htob, d := Both(m, l)
		same("Both", both, htob, c, d)
		if a != b || c != d {
			t.Fatalf("Join and Both of %v, %v: errors %d, %d, %d, %d", l, m, a, b, c, d)
		}
		left, e := Join(sure[[]api.Cell](t, "Join")(Join(l[:min(len(l), 30)], m[:min(len(m), 30)])), k)
		right, f := Join(l[:min(len(l), 30)], sure[[]api.Cell](t, "Join")(Join(m[:min(len(m), 30)], k)))
		same("Join of three", left, right, e, f)
		if a == api.OK {
			inside, e := Both(join, k)
			one, f := Both(l, k)
			other, g := Both(m, k)
			if f == api.OK && g == api.OK {
				sum, f := Join(one, other)
				same("Both over Join", inside, sum, e, f)
			}
		}
		if c == api.OK {
			over, e := Join(both, k)
			one, f := Join(l, k)
			other, g := Join(m, k)
			if f == api.OK && g == api.OK {
				common, f := Both(one, other)
				same("Join over Both", over, common, e, f)
			}
		}
		if a == api.OK && c == api.OK {
			size := sure[int](t, "Size")
			if size(Size(join))+size(Size(both)) != size(Size(l))+size(Size(m)) {
				t.Fatalf("Sizes of %v, %v, %v, %v", l, m, join, both)
			}
		}
		rest, err := Rest(l)
		if err == api.OK {
			again, e := Rest(rest)
			same("Rest of Rest", again, l, e, api.OK)
			if n, s := sure[int](t, "Size")(Size(rest)), sure[int](t, "Size")(Size(l)); n+s != 12*256 {
				t.Fatalf("Sizes of %v, %v: %d, %d", l, rest, s, n)
			}
			without, e := Without(m, l)
			common, f := Both(m, rest)
			same("Without", without, common, e, f)
			if e != f {
				t.Fatalf("Without(%v, %v): %d, Both with the rest: %d", m, l, e, f)
			}
		}
	})
}

// TestCoarse: P6.6 and P6.9.
func TestCoarse(t *testing.T) {
	manySets(6, 300, func(l, _ []api.Cell, next func(int) int) {
		is := take(l)
		before := slices.Clone(l)
		for order := range counts {
			var had []api.Cell // the cells of the order of which the set has a pixel
			for pixel := range counts[order] {
				c := api.Cell{Order: order, Pixel: pixel}
				if _, none := holds(&is, c); !none {
					had = append(had, c)
				}
			}
			coarse, err := Coarse(l, order)
			if !slices.Equal(coarse, setOf(take(had))) || err != api.OK {
				t.Fatalf("Coarse(%v, %d): %v, %d", l, order, coarse, err)
			}
			if without, err := Without(l, coarse); len(without) != 0 || err != api.OK {
				t.Fatalf("Coarse(%v, %d): %v, without %v, %d", l, order, coarse, without, err)
			}
			clear(coarse)
			if !slices.Equal(l, before) {
				t.Fatalf("Coarse(%v, %d) changes it to %v", before, order, l)
			}
		}
	})
	if l, err := Coarse(cells(4, 0, 17, 300), 2); !slices.Equal(l, cells(2, 0, 1, 18)) || err != api.OK {
		t.Errorf("Coarse: %v, %d", l, err)
	}
	if l, err := Coarse(cells(4, 0, 17, 34, 51), 2); !slices.Equal(l, cells(1, 0)) || err != api.OK {
		t.Errorf("Coarse: %v, %d", l, err)
	}
	if l, err := Coarse(append(cells(0, 0), cells(4, 3071)...), 1); !slices.Equal(l, append(cells(0, 0), cells(1, 47)...)) || err != api.OK {
		t.Errorf("Coarse: %v, %d", l, err)
	}
}

// TestRingsFromTo: P6.6 and P6.10, from any ring to any other one.
func TestRingsFromTo(t *testing.T) {
	for from := 1; from <= 63; from++ {
		var is taken
		total := 0
		for to := from; to <= 63; to++ {
			for _, pixel := range sure[[]int](t, "On")(On(4, to)) {
				is[pixel] = true
			}
			total += sure[int](t, "Length")(Length(4, to))
			want := setOf(is)
			l, err := Rings(from, to)
			if len(want) > 400 && (len(l) != 0 || err != api.ErrLimit) || len(want) <= 400 && (!slices.Equal(l, want) || err != api.OK) {
				t.Fatalf("Rings(%d, %d): %v, %d, want %v", from, to, l, err, want)
			}
			if n, err := Size(l); len(want) <= 400 && (n != total || err != api.OK) {
				t.Fatalf("Size(Rings(%d, %d)): %d, %d, want %d", from, to, n, err, total)
			}
		}
		for to := range from {
			if l, err := Rings(from, to); len(l) != 0 || err != api.ErrArg {
				t.Fatalf("Rings(%d, %d): %v, %d", from, to, l, err)
			}
		}
	}
	if l, err := Rings(1, 63); !slices.Equal(l, whole()) || err != api.OK {
		t.Errorf("Rings(1, 63): %v, %d", l, err)
	}
	if l, err := Rings(1, 1); !slices.Equal(l, cells(4, 255, 511, 767, 1023)) || err != api.OK {
		t.Errorf("Rings(1, 1): %v, %d", l, err)
	}
	if l, err := Rings(63, 63); !slices.Equal(l, cells(4, 2048, 2304, 2560, 2816)) || err != api.OK {
		t.Errorf("Rings(63, 63): %v, %d", l, err)
	}
	for _, ring := range append([]int{0, 64, 65}, extremes...) {
		for _, c := range [][2]int{{ring, 63}, {1, ring}, {ring, ring}, {ring, 0}, {64, ring}} {
			if l, err := Rings(c[0], c[1]); len(l) != 0 || err != api.ErrArg {
				t.Errorf("Rings(%d, %d): %v, %d", c[0], c[1], l, err)
			}
		}
	}
}
