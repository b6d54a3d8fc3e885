package ice

import (
	"slices"
	"testing"

	"firn/api"
)

// testStrengths are strengths for some ice, each of which makes something else of it.
func testStrengths(i []api.Layer) []int {
	strengths := []int{0, 100000}
	for _, d := range dimsOf(i) {
		strengths = append(strengths, d, d+1, max(d-1, 0), 2*d)
	}
	strengths = append(strengths, sum(dimsOf(i)), sum(dimsOf(i))/2, sum(dimsOf(i))/3)
	slices.Sort(strengths)
	return slices.Compact(strengths)
}

// lightOf returns for each metre of ice whether a lamp lights it: those between it
// and each depth to which the loss is at most the strength.
func lightOf(dims []int, lamp, strength int) []bool {
	lit := make([]bool, len(dims))
	for to := range len(dims) + 1 {
		a, b := min(lamp, to), max(lamp, to)
		if sum(dims[a:b]) <= strength {
			for m := a; m < b; m++ {
				lit[m] = true
			}
		}
	}
	return lit
}

// allLight returns lightOf for all depths.
func allLight(dims []int, strength int) [][]bool {
	var all [][]bool
	for lamp := range len(dims) + 1 {
		all = append(all, lightOf(dims, lamp, strength))
	}
	return all
}

// subsets returns all strictly ascending lists of numbers less than n.
func subsets(n int) [][]int {
	var lists [][]int
	for code := range 1 << n {
		var l []int
		for k := range n {
			if code>>k&1 == 1 {
				l = append(l, k)
			}
		}
		lists = append(lists, l)
	}
	return lists
}

// lightEach reports whether some lamps light each metre.
func lightEach(all [][]bool, lamps []int) bool {
	for m := range all[0] {
		if !slices.ContainsFunc(lamps, func(lamp int) bool { return all[lamp][m] }) {
			return false
		}
	}
	return true
}

// lightTwo reports whether one lamp, at whatever depth, lights two of some metres.
func lightTwo(all [][]bool, places []int) bool {
	return slices.ContainsFunc(all, func(lit []bool) bool {
		count := 0
		for _, m := range places {
			if lit[m] {
				count++
			}
		}
		return count > 1
	})
}

// TestLampsByHand: P4.3, P4.5 and the chapter's examples.
func TestLampsByHand(t *testing.T) {
	i := example()
	for _, c := range [][4]int{ // a depth, a strength, Up, Down
		{0, 6, 0, 3}, {0, 5, 0, 2}, {0, 0, 0, 0}, {3, 4, 2, 4}, {3, 5, 1, 4}, {3, 3, 3, 3}, {2, 4, 0, 3}, {2, 1, 1, 2}, {5, 4, 4, 5}, {5, 12, 2, 5}, {5, 13, 1, 5}, {4, 100000, 0, 5}, {0, 14, 0, 5}, {0, 13, 0, 4}, {5, 14, 0, 5},
	} {
		if d, err := Down(i, c[0], c[1]); d != c[3] || err != api.OK {
			t.Errorf("Down(%d, %d): %d, %d, want %d", c[0], c[1], d, err, c[3])
		}
		if d, err := Up(i, c[0], c[1]); d != c[2] || err != api.OK {
			t.Errorf("Up(%d, %d): %d, %d, want %d", c[0], c[1], d, err, c[2])
		}
		if from, to, err := Lit(i, c[0], c[1]); from != c[2] || to != c[3] || err != api.OK {
			t.Errorf("Lit(%d, %d): %d, %d, %d, want %v", c[0], c[1], from, to, err, c[2:])
		}
	}
	for _, c := range []struct {
		i           []api.Layer
		strength    int
		lamps, dark []int
	}{
		{i, 4, []int{2, 4}, []int{0, 3}},
		{i, 6, []int{3, 5}, []int{0, 4}},
		{i, 14, []int{5}, []int{0}},
		{i, 100000, []int{5}, []int{0}},
		{layers(1, 5, 1), 1, []int{1, 3, 5}, []int{0, 2, 4}},
		{layers(1, 5, 1), 2, []int{2, 5}, []int{0, 4}},
		{layers(2, 3, 0), 0, []int{6}, []int{0}},
		{layers(1, 1, 0), 0, []int{1}, []int{0}},
		// Metres without loss are passed, also those below the last metre that is lit.
		{[]api.Layer{{Thick: 1, Dim: 3}, {Thick: 2, Dim: 0}, {Thick: 1, Dim: 3}, {Thick: 2, Dim: 0}}, 3, []int{3}, []int{0}},
		{[]api.Layer{{Thick: 2, Dim: 0}, {Thick: 2, Dim: 3}, {Thick: 1, Dim: 0}}, 3, []int{3}, []int{0}},
		{[]api.Layer{{Thick: 1, Dim: 3}, {Thick: 2, Dim: 0}, {Thick: 2, Dim: 3}, {Thick: 2, Dim: 0}}, 3, []int{3, 7}, []int{0, 4}},
	} {
		if lamps, err := Lamps(c.i, c.strength); !slices.Equal(lamps, c.lamps) || err != api.OK {
			t.Errorf("Lamps(%v, %d): %v, %d, want %v", c.i, c.strength, lamps, err, c.lamps)
		}
		if dark, err := Dark(c.i, c.strength); !slices.Equal(dark, c.dark) || err != api.OK {
			t.Errorf("Dark(%v, %d): %v, %d, want %v", c.i, c.strength, dark, err, c.dark)
		}
	}
}

// TestLit: P4.3 and P4.9, against the losses to all depths.
func TestLit(t *testing.T) {
	manyIce(11, 200, func(i []api.Layer, next func(int) int) {
		dims := dimsOf(i)
		strengths := testStrengths(i)
		from, strength := next(len(dims)+1), strengths[next(len(strengths))]
		up, down := from, from
		for to := range len(dims) + 1 {
			if to < from && sum(dims[to:from]) <= strength {
				up = min(up, to)
			}
			if to > from && sum(dims[from:to]) <= strength {
				down = to
			}
		}
		if d, err := Down(i, from, strength); d != down || err != api.OK {
			t.Fatalf("Down(%v, %d, %d): %d, %d, want %d", i, from, strength, d, err, down)
		}
		if d, err := Up(i, from, strength); d != up || err != api.OK {
			t.Fatalf("Up(%v, %d, %d): %d, %d, want %d", i, from, strength, d, err, up)
		}
		if a, b, err := Lit(i, from, strength); a != up || b != down || err != api.OK {
			t.Fatalf("Lit(%v, %d, %d): %d, %d, %d, want %d, %d", i, from, strength, a, b, err, up, down)
		}
		to := next(len(dims) + 1)
		loss := sure[int](t, "Loss")(Loss(i, from, to))
		if from <= to && sure[int](t, "Down")(Down(i, from, loss)) < to {
			t.Fatalf("Down(%v, %d, %d): not as far as %d", i, from, loss, to)
		}
		if to <= from && sure[int](t, "Up")(Up(i, from, loss)) > to {
			t.Fatalf("Up(%v, %d, %d): not as far as %d", i, from, loss, to)
		}
	})
}

// TestLampsOfSmallIce: P4.5 and P4.10, against all lamps and all dark places.
func TestLampsOfSmallIce(t *testing.T) {
	smallIce(12, 150, func(i []api.Layer, next func(int) int) {
		dims := dimsOf(i)
		for _, strength := range testStrengths(i) {
			all := allLight(dims, strength)
			fewest, most := -1, 0
			for _, lamps := range subsets(len(dims) + 1) {
				want := lightEach(all, lamps)
				if is, err := Light(i, strength, lamps); is != want || err != api.OK {
					t.Fatalf("Light(%v, %d, %v): %v, %d, want %v", i, strength, lamps, is, err, want)
				}
				if want && (fewest < 0 || len(lamps) < fewest) {
					fewest = len(lamps)
				}
			}
			for _, places := range subsets(len(dims)) {
				want := !lightTwo(all, places)
				if is, err := AreDark(i, strength, places); is != want || err != api.OK {
					t.Fatalf("AreDark(%v, %d, %v): %v, %d, want %v", i, strength, places, is, err, want)
				}
				if want {
					most = max(most, len(places))
				}
			}
			lamps, err := Lamps(i, strength)
			if fewest < 0 {
				if lamps != nil || err != api.ErrNone || strength >= slices.Max(dims) {
					t.Fatalf("Lamps(%v, %d): %v, %d", i, strength, lamps, err)
				}
			} else if len(lamps) != fewest || len(lamps) != most || err != api.OK {
				t.Fatalf("Lamps(%v, %d): %v, %d, want %d of them, dark places %d", i, strength, lamps, err, fewest, most)
			}
		}
	})
}

// TestLampsAreDeepest: P4.5 and P4.10, by the words of the chapter: the deepest
// lamp for the first metre that is not lit yet.
func TestLampsAreDeepest(t *testing.T) {
	hold := func(i []api.Layer, next func(int) int) {
		dims := dimsOf(i)
		for _, strength := range testStrengths(i) {
			var lamps, dark []int
			lit := make([]bool, len(dims))
			want := api.OK
			for m := slices.Index(lit, false); m >= 0 && want == api.OK; m = slices.Index(lit, false) {
				lamp := len(dims)
				for lamp >= 0 && !lightOf(dims, lamp, strength)[m] {
					lamp--
				}
				if lamp < 0 {
					lamps, dark, want = nil, nil, api.ErrNone
					break
				}
				lamps, dark = append(lamps, lamp), append(dark, m)
				for k, is := range lightOf(dims, lamp, strength) {
					lit[k] = lit[k] || is
				}
			}
			holdLamps(t, i, strength, lamps, dark, want)
		}
	}
	smallIce(13, 300, hold)
	manyIce(14, 60, func(i []api.Layer, next func(int) int) {
		if len(dimsOf(i)) <= 60 {
			hold(i, next)
		}
	})
}

// holdLamps holds Lamps and Dark against what they have to be, and Light and AreDark against both.
func holdLamps(t *testing.T, i []api.Layer, strength int, lamps, dark []int, want api.Errno) {
	t.Helper()
	l, err := Lamps(i, strength)
	if !slices.Equal(l, lamps) || err != want {
		t.Fatalf("Lamps(%v, %d): %v, %d, want %v, %d", i, strength, l, err, lamps, want)
	}
	d, err := Dark(i, strength)
	if !slices.Equal(d, dark) || err != want {
		t.Fatalf("Dark(%v, %d): %v, %d, want %v, %d", i, strength, d, err, dark, want)
	}
	if is, err := AreDark(i, strength, d); !is || err != api.OK {
		t.Fatalf("AreDark(%v, %d, %v): %v, %d", i, strength, d, is, err)
	}
	if is, err := Light(i, strength, l); is != (want == api.OK) || err != api.OK {
		t.Fatalf("Light(%v, %d, %v): %v, %d", i, strength, l, is, err)
	}
	for n := range l {
		fewer := slices.Delete(slices.Clone(l), n, n+1)
		if is, err := Light(i, strength, fewer); is || err != api.OK {
			t.Fatalf("Light(%v, %d, %v): %v, %d", i, strength, fewer, is, err)
		}
	}
}

// TestLampsOfOtherIce: P4.10 and P4.11, also with as many metres as there can be.
func TestLampsOfOtherIce(t *testing.T) {
	manyIce(15, 150, func(i []api.Layer, next func(int) int) {
		strengths := testStrengths(i)
		strength := strengths[next(len(strengths))]
		lamps, err := Lamps(i, strength)
		if want := slices.Max(dimsOf(i)) > strength; want != (err == api.ErrNone) || want != (lamps == nil) {
			t.Fatalf("Lamps(%v, %d): %v, %d", i, strength, lamps, err)
		}
		dark, e := Dark(i, strength)
		if len(dark) != len(lamps) || e != err {
			t.Fatalf("Dark(%v, %d): %v, %d", i, strength, dark, e)
		}
		plain := sure[[]api.Layer](t, "Plain")(Plain(i))
		turned := sure[[]api.Layer](t, "Turned")(Turned(i))
		if other, e := Lamps(turned, strength); len(other) != len(lamps) || e != err {
			t.Fatalf("Lamps(%v, %d): %v, %d", turned, strength, other, e)
		}
		if Valid(plain) {
			if other, e := Lamps(plain, strength); !slices.Equal(other, lamps) || e != err {
				t.Fatalf("Lamps(%v, %d): %v, %d", plain, strength, other, e)
			}
		}
		if err == api.OK {
			holdLamps(t, i, strength, lamps, dark, api.OK)
		}
	})
}

// TestMostLamps: P4.5, lists of as many lamps and places as there can be.
func TestMostLamps(t *testing.T) {
	deepest := layers(api.MaxLayers, api.MaxThick, 1)
	var depths []int
	for d := range 601 {
		depths = append(depths, d)
	}
	for strength, want := range []bool{false, true, true} {
		if is, err := Light(deepest, strength, depths[1:]); is != want || err != api.OK {
			t.Errorf("Light of 600 lamps of %d: %v, %d", strength, is, err)
		}
		// One more lights as much, but is too much.
		if is, err := Light(deepest, strength, depths); is || err != api.OK {
			t.Errorf("Light of 601 lamps of %d: %v, %d", strength, is, err)
		}
		if is, err := AreDark(deepest, strength, depths[:600]); is == want || err != api.OK {
			t.Errorf("AreDark of 600 metres with %d: %v, %d", strength, is, err)
		}
	}
	for _, bad := range [][]int{append(slices.Clone(depths), 601), append(slices.Clone(depths), 600), append([]int{0}, depths...), slices.Repeat([]int{5}, 5000)} {
		if is, err := Light(deepest, 1, bad); is || err != api.ErrArg {
			t.Errorf("Light of %d lamps that are none: %v, %d", len(bad), is, err)
		}
	}
	if lamps, err := Lamps(deepest, 1); len(lamps) != 300 || err != api.OK {
		t.Errorf("Lamps: %d of them, %d", len(lamps), err)
	}
}

// TestErrorsOfLamps: P4.1, P4.3 and P4.5, strengths, depths, lamps and places that are none.
func TestErrorsOfLamps(t *testing.T) {
	i := example()
	hold := func(depth, strength int) {
		t.Helper()
		down, a := Down(i, depth, strength)
		up, b := Up(i, depth, strength)
		from, to, c := Lit(i, depth, strength)
		if down != 0 || up != 0 || from != 0 || to != 0 || a != api.ErrArg || b != api.ErrArg || c != api.ErrArg {
			t.Errorf("from %d with %d: %d, %d, %d, %d, errors %d, %d, %d", depth, strength, down, up, from, to, a, b, c)
		}
	}
	for _, n := range append([]int{100001, -2}, extremes...) {
		hold(0, n)
		lamps, a := Lamps(i, n)
		light, b := Light(i, n, []int{2, 4})
		dark, c := Dark(i, n)
		are, d := AreDark(i, n, []int{0})
		if lamps != nil || light || dark != nil || are || a != api.ErrArg || b != api.ErrArg || c != api.ErrArg || d != api.ErrArg {
			t.Errorf("with %d: %v, %v, %v, %v, errors %d, %d, %d, %d", n, lamps, light, dark, are, a, b, c, d)
		}
	}
	for _, n := range append([]int{6, 600}, extremes...) {
		hold(n, 5)
		for _, lamps := range [][]int{{n}, {0, n}, {n, 5}} {
			if is, err := Light(i, 100, lamps); is || err != api.ErrArg {
				t.Errorf("Light(%v): %v, %d", lamps, is, err)
			}
		}
	}
	for _, n := range append([]int{5, 6, 600}, extremes...) {
		for _, places := range [][]int{{n}, {0, n}, {n, 4}} {
			if is, err := AreDark(i, 0, places); is || err != api.ErrArg {
				t.Errorf("AreDark(%v): %v, %d", places, is, err)
			}
		}
	}
	for _, l := range [][]int{{2, 2}, {3, 2}, {0, 2, 2, 4}, {0, 2, 1, 4}, {0, 0}} {
		light, a := Light(i, 100, l)
		are, b := AreDark(i, 0, l)
		if light || are || a != api.ErrArg || b != api.ErrArg {
			t.Errorf("%v: %v, %v, errors %d, %d", l, light, are, a, b)
		}
	}
	for _, none := range [][]int{nil, {}} {
		light, a := Light(i, 100, none)
		are, b := AreDark(i, 100, none)
		if light || !are || a != api.OK || b != api.OK {
			t.Errorf("an empty list: %v, %v, errors %d, %d", light, are, a, b)
		}
	}
}

// TestNoLamps: P4.5, a metre that takes more than the strength.
func TestNoLamps(t *testing.T) {
	for _, i := range [][]api.Layer{
		example(), layers(1, 1, 4), append(layers(3, 9, 0), example()...), {{Thick: 1, Dim: 4}, {Thick: 5, Dim: 0}}, layers(api.MaxLayers, api.MaxThick, 4),
	} {
		for strength := range 4 {
			lamps, a := Lamps(i, strength)
			dark, b := Dark(i, strength)
			if lamps != nil || dark != nil || a != api.ErrNone || b != api.ErrNone {
				t.Errorf("%v with %d: %v, %v, errors %d, %d", i, strength, lamps, dark, a, b)
			}
			if is, err := Light(i, strength, []int{0, 1}); is || err != api.OK {
				t.Errorf("Light(%v, %d): %v, %d", i, strength, is, err)
			}
		}
		if _, err := Lamps(i, 4); err != api.OK {
			t.Errorf("Lamps(%v, 4): %d", i, err)
		}
	}
	// No lamp lights such metres at all, so that no one lights two of them.
	if is, err := AreDark(example(), 3, []int{0, 2, 3, 4}); !is || err != api.OK {
		t.Errorf("AreDark: %v, %d", is, err)
	}
}

// TestLeast: P4.6 and P4.10.
func TestLeast(t *testing.T) {
	for _, c := range []struct {
		i           []api.Layer
		lamps, want int
	}{
		{example(), 1, 8}, {example(), 2, 4}, {example(), 3, 4}, {example(), 600, 4},
		{layers(1, 1, 0), 1, 0}, {layers(1, 1, 7), 1, 7}, {layers(1, 1, 7), 600, 7}, {layers(1, 2, 7), 1, 7}, {layers(1, 3, 7), 1, 14},
		{layers(api.MaxLayers, api.MaxThick, 0), 1, 0},
		{layers(api.MaxLayers, api.MaxThick, api.MaxDim), 1, 30000},
		{layers(api.MaxLayers, api.MaxThick, api.MaxDim), 299, 200},
		{layers(api.MaxLayers, api.MaxThick, api.MaxDim), 300, 100},
	} {
		if least, err := Least(c.i, c.lamps); least != c.want || err != api.OK {
			t.Errorf("Least(%v, %d): %d, %d, want %d", c.i, c.lamps, least, err, c.want)
		}
	}
	hold := func(i []api.Layer, next func(int) int) {
		for _, lamps := range []int{1, 2, 1 + next(5), 1 + next(600)} {
			least := sure[int](t, "Least")(Least(i, lamps))
			if l, err := Lamps(i, least); len(l) > lamps || err != api.OK {
				t.Fatalf("Least(%v, %d): %d, with which there are %d", i, lamps, least, len(l))
			}
			if least == 0 {
				continue
			}
			if l, err := Lamps(i, least-1); len(l) <= lamps && err != api.ErrNone {
				t.Fatalf("Least(%v, %d): %d, with one less there are %d, %d", i, lamps, least, len(l), err)
			}
		}
	}
	smallIce(16, 300, hold)
	manyIce(17, 300, hold)
	for _, n := range append([]int{0, 601, -2}, extremes...) {
		if least, err := Least(example(), n); least != 0 || err != api.ErrArg {
			t.Errorf("Least of %d lamps: %d, %d", n, least, err)
		}
	}
}
