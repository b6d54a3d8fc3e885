package cone

import (
	"math"
	"math/rand"
	"slices"
	"testing"

	"firn/api"
)

// The numbers that no call may stumble over.
var extremes = []int{math.MinInt, math.MinInt + 1, -1, math.MaxInt - 1, math.MaxInt}

// numbers returns a function that returns always the same numbers below others.
func numbers(seed int64) func(int) int {
	return rand.New(rand.NewSource(seed)).Intn
}

// hits returns hits by their places and times.
func hits(pairs ...int) []api.Hit {
	var h []api.Hit
	for i := 0; i < len(pairs); i += 2 {
		h = append(h, api.Hit{Place: pairs[i], Time: pairs[i+1]})
	}
	return h
}

func example() []api.Hit {
	return hits(0, 0, 5, 3, 0, 10)
}

// row returns n hits, each of which is before the next one.
func row(n int) []api.Hit {
	var h []api.Hit
	for i := range n {
		h = append(h, api.Hit{Time: i})
	}
	return h
}

// strangers returns n hits that do not know of each other.
func strangers(n int) []api.Hit {
	var h []api.Hit
	for i := range n {
		h = append(h, api.Hit{Place: i})
	}
	return h
}

// randomHits returns up to most hits in any order with places and times up to wide from 0.
func randomHits(next func(int) int, most, wide int) []api.Hit {
	n := 1 + next(most)
	seen := map[api.Hit]bool{}
	var h []api.Hit
	for len(h) < n {
		hit := api.Hit{Place: next(2*wide+1) - wide, Time: next(2*wide+1) - wide}
		if !seen[hit] {
			seen[hit] = true
			h = append(h, hit)
		}
	}
	return h
}

// manyHits calls look with many hits, among them some of all sizes up to most.
func manyHits(seed int64, times, most int, look func(h []api.Hit, next func(int) int)) {
	next := numbers(seed)
	for i := range times {
		look(randomHits(next, most, []int{2, 4, 10, api.MaxPlace}[i%4]), next)
	}
	for n := 1; n <= most; n++ {
		look(row(n), next)
		look(strangers(n), next)
	}
}

// earlier says that a hit is before another one by light cones: what it can
// reach goes up and down with the time, and the other one lies between.
func earlier(a, b api.Hit) bool {
	return a != b && a.Time-a.Place <= b.Time-b.Place && a.Time+a.Place <= b.Time+b.Place
}

func isPast(h []api.Hit, a, b int) bool {
	return earlier(h[a], h[b])
}

func areStrangers(h []api.Hit, a, b int) bool {
	return !earlier(h[a], h[b]) && !earlier(h[b], h[a])
}

// listsBy returns all lists, not empty, in which each two that follow one another
// are right, found by trying all that go on from the shorter ones.
func listsBy(h []api.Hit, right func(l []int, next int) bool) [][]int {
	var all [][]int
	var grow func(l []int)
	grow = func(l []int) {
		if len(l) > 0 {
			all = append(all, slices.Clone(l))
		}
		for b := range h {
			if right(l, b) {
				grow(append(slices.Clone(l), b))
			}
		}
	}
	grow(nil)
	return all
}

// allChains returns all chains, the ones that come first in front.
func allChains(h []api.Hit) [][]int {
	return listsBy(h, func(l []int, b int) bool {
		return len(l) == 0 || isPast(h, l[len(l)-1], b)
	})
}

// allLayers returns all layers, the ones that come first in front.
func allLayers(h []api.Hit) [][]int {
	return listsBy(h, func(l []int, b int) bool {
		for _, a := range l {
			if a >= b || !areStrangers(h, a, b) {
				return false
			}
		}
		return true
	})
}

// firstLongest returns the first one of the longest lists.
func firstLongest(lists [][]int) []int {
	best := lists[0]
	for _, l := range lists {
		if len(l) > len(best) || len(l) == len(best) && slices.Compare(l, best) < 0 {
			best = l
		}
	}
	return best
}

// fewest returns how many of the lists are needed at least for each hit to be in
// just one of them.
func fewest(n int, lists [][]int) int {
	var masks []int
	for _, l := range lists {
		mask := 0
		for _, a := range l {
			mask |= 1 << a
		}
		masks = append(masks, mask)
	}
	need := make([]int, 1<<n)
	for left := 1; left < 1<<n; left++ {
		need[left] = n + 1
		for _, mask := range masks {
			if mask&^left == 0 {
				need[left] = min(need[left], 1+need[left&^mask])
			}
		}
	}
	return need[1<<n-1]
}

func invalidHits() [][]api.Hit {
	bad := [][]api.Hit{
		nil, {}, row(api.MaxHits + 1), strangers(api.MaxHits + 1), make([]api.Hit, 1000),
		hits(0, 0, 0, 0), hits(1, 2, 3, 4, 1, 2), hits(1001, 0), hits(-1001, 0), hits(0, 1001), hits(0, -1001), hits(0, 0, 0, 1001),
	}
	for _, n := range extremes {
		if n != -1 {
			bad = append(bad, hits(n, 0), hits(0, n), hits(0, 0, n, n))
		}
	}
	return bad
}

// TestValid: P2.2.
func TestValid(t *testing.T) {
	for _, h := range [][]api.Hit{
		hits(0, 0), example(), hits(1000, 1000, -1000, -1000, 1000, -1000, -1000, 1000), hits(0, 1, 1, 0), hits(0, 0, 0, 1), hits(0, 0, 1, 0),
		row(api.MaxHits), strangers(api.MaxHits),
	} {
		if !Valid(h) {
			t.Errorf("Valid(%v): false", h)
		}
	}
	for _, h := range invalidHits() {
		if Valid(h) {
			t.Errorf("Valid(%v): true", h)
		}
	}
	// Only the length of a list says how many there are.
	if long := row(20); !Valid(long[:3]) || Valid(long[:0]) {
		t.Errorf("Valid of a part of a list")
	}
}

// TestBefore: P2.2, at the edges of what a hit can reach.
func TestBefore(t *testing.T) {
	for _, c := range []struct {
		a, b api.Hit
		is   bool
	}{
		{api.Hit{}, api.Hit{Place: 0, Time: 1}, true},
		{api.Hit{}, api.Hit{Place: 1, Time: 1}, true},
		{api.Hit{}, api.Hit{Place: -1, Time: 1}, true},
		{api.Hit{}, api.Hit{Place: 2, Time: 1}, false},
		{api.Hit{}, api.Hit{Place: -2, Time: 1}, false},
		{api.Hit{}, api.Hit{Place: 1, Time: 0}, false},
		{api.Hit{}, api.Hit{Place: 0, Time: -1}, false},
		{api.Hit{Place: 7, Time: -3}, api.Hit{Place: 2, Time: 2}, true},
		{api.Hit{Place: 7, Time: -3}, api.Hit{Place: 1, Time: 2}, false},
		{api.Hit{Place: -1000, Time: -1000}, api.Hit{Place: 1000, Time: 1000}, true},
		{api.Hit{Place: 1000, Time: -1000}, api.Hit{Place: -1000, Time: 1000}, true},
		{api.Hit{Place: -1000, Time: -999}, api.Hit{Place: 1000, Time: 1000}, false},
	} {
		h := []api.Hit{c.a, c.b}
		if is, err := Before(h, 0, 1); is != c.is || err != api.OK {
			t.Errorf("Before(%v, 0, 1): %v, %d", h, is, err)
		}
		if is, err := Before(h, 1, 0); is == c.is && is || err != api.OK {
			t.Errorf("Before(%v, 1, 0): %v, %d", h, is, err)
		}
		if is, err := Before(h, 0, 0); is || err != api.OK {
			t.Errorf("Before(%v, 0, 0): %v, %d", h, is, err)
		}
	}
}

// TestOrder: P2.2 and P2.10 by light cones.
func TestOrder(t *testing.T) {
	manyHits(1, 2000, api.MaxHits, func(h []api.Hit, next func(int) int) {
		var first []int
		for a := range h {
			var past []int
			for b := range h {
				is, err := Before(h, b, a)
				if is != isPast(h, b, a) || err != api.OK {
					t.Fatalf("Before(%v, %d, %d): %v, %d", h, b, a, is, err)
				}
				if is {
					past = append(past, b)
				}
			}
			if len(past) == 0 {
				first = append(first, a)
			}
			l, err := Past(h, a)
			if !slices.Equal(l, past) || err != api.OK {
				t.Fatalf("Past(%v, %d): %v, %d, want %v", h, a, l, err, past)
			}
			for _, b := range l {
				earlier, err := Past(h, b)
				if slices.Contains(earlier, b) || slices.Contains(earlier, a) || err != api.OK {
					t.Fatalf("Past(%v, %d): %v, %d", h, b, earlier, err)
				}
				for _, c := range earlier {
					if !slices.Contains(l, c) {
						t.Fatalf("Past(%v, %d) is without %d", h, a, c)
					}
				}
			}
		}
		if l, err := First(h); !slices.Equal(l, first) || err != api.OK {
			t.Fatalf("First(%v): %v, %d, want %v", h, l, err, first)
		}
	})
}

func TestExample(t *testing.T) {
	h := example()
	for _, c := range []struct {
		name string
		call func([]api.Hit) ([]int, api.Errno)
		want []int
	}{
		{"Chain", Chain, []int{0, 2}},
		{"Layer", Layer, []int{0, 1}},
		{"First", First, []int{0, 1}},
		{"Past of the third one", func(h []api.Hit) ([]int, api.Errno) { return Past(h, 2) }, []int{0, 1}},
		{"Past of the first one", func(h []api.Hit) ([]int, api.Errno) { return Past(h, 0) }, nil},
	} {
		if l, err := c.call(h); !slices.Equal(l, c.want) || err != api.OK {
			t.Errorf("%s: %v, %d", c.name, l, err)
		}
	}
	if l, err := Layers(h); !sameLists(l, [][]int{{0, 1}, {2}}) || err != api.OK {
		t.Errorf("Layers: %v, %d", l, err)
	}
	if l, err := Threads(h); len(l) != 2 || err != api.OK {
		t.Errorf("Threads: %v, %d", l, err)
	}
	if n, err := Chains(h); n != 5 || err != api.OK {
		t.Errorf("Chains: %d, %d", n, err)
	}
	if n, time, err := Most(h, 3); n != 2 || time != 0 || err != api.OK {
		t.Errorf("Most: %d, %d, %d", n, time, err)
	}
}

// TestMoved: P2.7, up to the edges, which numbers must not go round.
func TestMoved(t *testing.T) {
	h := hits(-10, 900, 20, -950)
	for _, c := range []struct {
		place, time int
		err         api.Errno
	}{
		{0, 0, api.OK}, {5, -7, api.OK},
		{980, 0, api.OK}, {981, 0, api.ErrArg}, {-990, 0, api.OK}, {-991, 0, api.ErrArg},
		{0, 100, api.OK}, {0, 101, api.ErrArg}, {0, -50, api.OK}, {0, -51, api.ErrArg},
		{980, 100, api.OK}, {-990, -50, api.OK}, {981, -51, api.ErrArg},
	} {
		l, err := Moved(h, c.place, c.time)
		var want []api.Hit
		if c.err == api.OK {
			want = hits(-10+c.place, 900+c.time, 20+c.place, -950+c.time)
		}
		if !slices.Equal(l, want) || err != c.err || err != api.OK && l != nil {
			t.Errorf("Moved(%d, %d): %v, %d", c.place, c.time, l, err)
		}
	}
	// From one end of the range to the other one, and not a step more.
	ends := hits(-1000, 1000)
	if l, err := Moved(ends, 2000, -2000); !slices.Equal(l, hits(1000, -1000)) || err != api.OK {
		t.Errorf("Moved: %v, %d", l, err)
	}
	for _, by := range append([]int{2001, 1 << 32, -1 << 63, 1<<63 - 1}, extremes...) {
		if l, err := Moved(ends, by, 0); by != -1 && (err != api.ErrArg || l != nil) {
			t.Errorf("Moved(%d, 0): %v, %d", by, l, err)
		}
		if l, err := Moved(hits(-1000, -1000), 0, by); err != api.ErrArg || l != nil {
			t.Errorf("Moved(0, %d): %v, %d", by, l, err)
		}
	}
}

func TestTurned(t *testing.T) {
	l, err := Turned(hits(5, 1000, -5, -1000, 7, 0, 8, -3))
	if !slices.Equal(l, hits(5, -1000, -5, 1000, 7, 0, 8, 3)) || err != api.OK {
		t.Errorf("Turned: %v, %d", l, err)
	}
}

// TestMovedAndTurned: P2.11, as much is told of hits that are moved or turned.
func TestMovedAndTurned(t *testing.T) {
	manyHits(2, 800, api.MaxHits, func(h []api.Hit, next func(int) int) {
		place, time := room(h, next)
		moved, err := Moved(h, place, time)
		if err != api.OK {
			t.Fatalf("Moved(%v, %d, %d): %d", h, place, time, err)
		}
		turned, err := Turned(h)
		if err != api.OK {
			t.Fatalf("Turned(%v): %d", h, err)
		}
		for a := range h {
			if moved[a].Place-h[a].Place != place || moved[a].Time-h[a].Time != time {
				t.Fatalf("Moved(%v, %d, %d): %v", h, place, time, moved)
			}
			for b := range h {
				is, _ := Before(h, a, b)
				still, _ := Before(moved, a, b)
				back, _ := Before(turned, b, a)
				if is != still || is != back {
					t.Fatalf("Before(%v, %d, %d): %v, moved %v, turned %v", h, a, b, is, still, back)
				}
			}
		}
		want := told3(t, h)
		if told3(t, moved) != want || told3(t, turned) != want {
			t.Fatalf("%v: %v, moved %v, turned %v", h, want, told3(t, moved), told3(t, turned))
		}
		if again, err := Turned(turned); !slices.Equal(again, h) || err != api.OK {
			t.Fatalf("Turned(%v): %v, %d", turned, again, err)
		}
	})
}

// room returns by how much hits can be moved.
func room(h []api.Hit, next func(int) int) (place, time int) {
	least, most := h[0], h[0]
	for _, hit := range h {
		least = api.Hit{Place: min(least.Place, hit.Place), Time: min(least.Time, hit.Time)}
		most = api.Hit{Place: max(most.Place, hit.Place), Time: max(most.Time, hit.Time)}
	}
	pick := func(least, most int) int {
		return -api.MaxPlace - least + next(2*api.MaxPlace-most+least+1)
	}
	return pick(least.Place, most.Place), pick(least.Time, most.Time)
}

// told3 returns how long Chain and Layer are, and how many chains there are.
func told3(t *testing.T, h []api.Hit) [3]int {
	t.Helper()
	chain, err1 := Chain(h)
	layer, err2 := Layer(h)
	chains, err3 := Chains(h)
	if err1 != api.OK || err2 != api.OK || err3 != api.OK {
		t.Fatalf("%v: %d, %d, %d", h, err1, err2, err3)
	}
	return [3]int{len(chain), len(layer), chains}
}

// calls calls each function with hits and with other arguments that are good or
// bad, and returns for each whether it returned nothing but an error, and which.
func calls(h []api.Hit, index, w, n, by int, l []int, lists [][]int) map[string]func() (bool, api.Errno) {
	return map[string]func() (bool, api.Errno){
		"Before":      func() (bool, api.Errno) { is, err := Before(h, index, 0); return !is, err },
		"Before back": func() (bool, api.Errno) { is, err := Before(h, 0, index); return !is, err },
		"IsChain":     func() (bool, api.Errno) { is, err := IsChain(h, l); return !is, err },
		"Chain":       func() (bool, api.Errno) { l, err := Chain(h); return l == nil, err },
		"Layers":      func() (bool, api.Errno) { l, err := Layers(h); return l == nil, err },
		"AreLayers":   func() (bool, api.Errno) { is, err := AreLayers(h, lists); return !is, err },
		"IsLayer":     func() (bool, api.Errno) { is, err := IsLayer(h, l); return !is, err },
		"Layer":       func() (bool, api.Errno) { l, err := Layer(h); return l == nil, err },
		"Threads":     func() (bool, api.Errno) { l, err := Threads(h); return l == nil, err },
		"AreThreads":  func() (bool, api.Errno) { is, err := AreThreads(h, lists); return !is, err },
		"Chains":      func() (bool, api.Errno) { n, err := Chains(h); return n == 0, err },
		"First":       func() (bool, api.Errno) { l, err := First(h); return l == nil, err },
		"Past":        func() (bool, api.Errno) { l, err := Past(h, index); return l == nil, err },
		"Most":        func() (bool, api.Errno) { n, time, err := Most(h, w); return n == 0 && time == 0, err },
		"Trigger":     func() (bool, api.Errno) { time, err := Trigger(h, n, w); return time == 0, err },
		"Moved":       func() (bool, api.Errno) { l, err := Moved(h, by, by); return l == nil, err },
		"Turned":      func() (bool, api.Errno) { l, err := Turned(h); return l == nil, err },
	}
}

// TestErrors: P2.1, and nothing comes with an error.
func TestErrors(t *testing.T) {
	for _, h := range invalidHits() {
		for _, bad := range append([]int{0, 3, 14, 15, 51}, extremes...) {
			for name, call := range calls(h, bad, bad, bad, bad, []int{bad}, [][]int{{bad}}) {
				if nothing, err := call(); !nothing || err != api.ErrHits {
					t.Errorf("%s(%v) with %d: %v, %d", name, h, bad, nothing, err)
				}
			}
		}
	}
	h := hits(5, 4, 5, 9, 70, 8)
	for _, bad := range append([]int{3, -1, 14, 51}, extremes...) {
		for _, name := range []string{"Before", "Before back", "Past"} {
			if nothing, err := calls(h, bad, 0, 1, 0, nil, nil)[name](); !nothing || err != api.ErrArg {
				t.Errorf("%s with %d: %v, %d", name, bad, nothing, err)
			}
		}
	}
	for _, index := range []int{0, 1, 2} {
		if _, err := Past(h, index); err != api.OK {
			t.Errorf("Past of %d: %d", index, err)
		}
	}
}

// TestKeepsArguments: R4, nothing is changed, kept or shared.
func TestKeepsArguments(t *testing.T) {
	space := append(example(), api.Hit{Place: 77, Time: 77})
	h := space[:3]
	for name, call := range map[string]func() ([]int, api.Errno){
		"Chain": func() ([]int, api.Errno) { return Chain(h) },
		"Layer": func() ([]int, api.Errno) { return Layer(h) },
		"First": func() ([]int, api.Errno) { return First(h) },
		"Past":  func() ([]int, api.Errno) { return Past(h, 2) },
	} {
		l, _ := call()
		want := slices.Clone(l)
		spoil(l)
		if again, err := call(); !slices.Equal(again, want) || err != api.OK {
			t.Errorf("%s: %v, %d, then %v", name, want, err, again)
		}
	}
	for name, call := range map[string]func([]api.Hit) ([][]int, api.Errno){"Layers": Layers, "Threads": Threads} {
		for _, h := range [][]api.Hit{h, row(9), strangers(9), randomHits(numbers(3), 14, 5)} {
			lists, _ := call(h)
			for i := range lists {
				want := copied(lists)
				spoil(lists[i])
				want[i] = slices.Clone(lists[i])
				if !sameLists(lists, want) {
					t.Errorf("%s(%v): lists share memory: %v", name, h, lists)
				}
			}
		}
	}
	for name, call := range map[string]func() ([]api.Hit, api.Errno){
		"Turned": func() ([]api.Hit, api.Errno) { return Turned(h) },
		"Moved":  func() ([]api.Hit, api.Errno) { return Moved(h, 0, 0) },
	} {
		l, err := call()
		if err != api.OK {
			t.Errorf("%s: %d", name, err)
		}
		clear(l)
		_ = append(l, api.Hit{})
	}
	if !slices.Equal(space, hits(0, 0, 5, 3, 0, 10, 77, 77)) {
		t.Errorf("an argument was changed: %v", space)
	}
}

// spoil writes over all the memory of a list.
func spoil(l []int) {
	whole := l[:cap(l)]
	for i := range whole {
		whole[i] = -5
	}
}

func copied(lists [][]int) [][]int {
	var l [][]int
	for _, one := range lists {
		l = append(l, slices.Clone(one))
	}
	return l
}

func sameLists(a, b [][]int) bool {
	return slices.EqualFunc(a, b, slices.Equal[[]int])
}
