package cone

import (
	"math"
	"slices"
	"testing"

	"firn/api"
)

// TestChain: P2.3 and P2.5, by all chains.
func TestChain(t *testing.T) {
	manyHits(10, 800, 9, func(h []api.Hit, next func(int) int) {
		all := allChains(h)
		want := firstLongest(all)
		if l, err := Chain(h); !slices.Equal(l, want) || err != api.OK {
			t.Fatalf("Chain(%v): %v, %d, want %v", h, l, err, want)
		}
		if n, err := Chains(h); n != len(all) || err != api.OK {
			t.Fatalf("Chains(%v): %d, %d, want %d", h, n, err, len(all))
		}
	})
}

// TestLayer: P2.4, by all layers.
func TestLayer(t *testing.T) {
	manyHits(11, 800, 9, func(h []api.Hit, next func(int) int) {
		want := firstLongest(allLayers(h))
		if l, err := Layer(h); !slices.Equal(l, want) || err != api.OK {
			t.Fatalf("Layer(%v): %v, %d, want %v", h, l, err, want)
		}
	})
}

// TestOfSeveral: the chain, or layer, that comes first is not the one found first.
func TestOfSeveral(t *testing.T) {
	for _, c := range []struct {
		h            []api.Hit
		chain, layer []int
	}{
		{hits(0, 0), []int{0}, []int{0}},
		{hits(0, 5, 0, 3, 0, 4), []int{1, 2, 0}, []int{0}},
		{hits(0, 1, 9, 0, 0, 0, 9, 1), []int{1, 3}, []int{0, 1}},
		{hits(0, 2, 1, 1, -1, 1, 0, 0), []int{3, 1, 0}, []int{1, 2}},
		{hits(0, 9, 100, 0, 100, 1, 0, 8), []int{1, 2}, []int{0, 1}},
		{hits(0, 1, 0, 0, 1, 0, -1, 0), []int{1, 0}, []int{1, 2, 3}},
		{hits(0, 0, 2, 0, 1, 1, 50, 0, 51, 0), []int{0, 2}, []int{0, 1, 3, 4}},
	} {
		if l, err := Chain(c.h); !slices.Equal(l, c.chain) || err != api.OK {
			t.Errorf("Chain(%v): %v, %d, want %v", c.h, l, err, c.chain)
		}
		if l, err := Layer(c.h); !slices.Equal(l, c.layer) || err != api.OK {
			t.Errorf("Layer(%v): %v, %d, want %v", c.h, l, err, c.layer)
		}
	}
}

// TestMostHits: as many hits as there can be, in a row and as strangers.
func TestMostHits(t *testing.T) {
	var all []int
	for i := range api.MaxHits {
		all = append(all, i)
	}
	if l, err := Chain(row(api.MaxHits)); !slices.Equal(l, all) || err != api.OK {
		t.Errorf("Chain: %v, %d", l, err)
	}
	if n, err := Chains(row(api.MaxHits)); n != 1<<api.MaxHits-1 || err != api.OK {
		t.Errorf("Chains: %d, %d", n, err)
	}
	if l, err := Layer(strangers(api.MaxHits)); !slices.Equal(l, all) || err != api.OK {
		t.Errorf("Layer: %v, %d", l, err)
	}
	if n, err := Chains(strangers(api.MaxHits)); n != api.MaxHits || err != api.OK {
		t.Errorf("Chains: %d, %d", n, err)
	}
}

// TestLayers: P2.3, the first layer is First, and so on with those that are left.
func TestLayers(t *testing.T) {
	manyHits(12, 800, api.MaxHits, func(h []api.Hit, next func(int) int) {
		layers, err := Layers(h)
		if err != api.OK {
			t.Fatalf("Layers(%v): %d", h, err)
		}
		gone := map[int]bool{}
		for i, layer := range layers {
			var want []int
			for a := range h {
				free := !gone[a]
				for b := range h {
					free = free && (gone[b] || !isPast(h, b, a))
				}
				if free {
					want = append(want, a)
				}
			}
			if !slices.Equal(layer, want) {
				t.Fatalf("Layers(%v): %v, want %v as the layer %d", h, layers, want, i)
			}
			for _, a := range layer {
				gone[a] = true
			}
		}
		if len(gone) != len(h) {
			t.Fatalf("Layers(%v): %v", h, layers)
		}
	})
}

// TestChainsAndLayers: P2.8.
func TestChainsAndLayers(t *testing.T) {
	manyHits(13, 800, api.MaxHits, func(h []api.Hit, next func(int) int) {
		layers, err1 := Layers(h)
		chain, err2 := Chain(h)
		if err1 != api.OK || err2 != api.OK || len(layers) != len(chain) {
			t.Fatalf("%v: Layers %v, %d, Chain %v, %d", h, layers, err1, chain, err2)
		}
		if is, err := AreLayers(h, layers); !is || err != api.OK {
			t.Fatalf("AreLayers(%v, %v): %v, %d", h, layers, is, err)
		}
		if is, err := IsChain(h, chain); !is || err != api.OK {
			t.Fatalf("IsChain(%v, %v): %v, %d", h, chain, is, err)
		}
		if len(h) <= 7 && fewest(len(h), allLayers(h)) != len(layers) {
			t.Fatalf("Layers(%v): %v are not the fewest", h, layers)
		}
	})
}

// TestLayersAndThreads: P2.9.
func TestLayersAndThreads(t *testing.T) {
	manyHits(14, 1500, api.MaxHits, func(h []api.Hit, next func(int) int) {
		threads, err1 := Threads(h)
		layer, err2 := Layer(h)
		if err1 != api.OK || err2 != api.OK || len(threads) != len(layer) {
			t.Fatalf("%v: Threads %v, %d, Layer %v, %d", h, threads, err1, layer, err2)
		}
		if is, err := AreThreads(h, threads); !is || err != api.OK {
			t.Fatalf("AreThreads(%v, %v): %v, %d", h, threads, is, err)
		}
		if is, err := IsLayer(h, layer); !is || err != api.OK {
			t.Fatalf("IsLayer(%v, %v): %v, %d", h, layer, is, err)
		}
		if chain, err := Chain(h); len(chain)*len(layer) < len(h) || err != api.OK {
			t.Fatalf("%v: Chain %v, %d, Layer %v", h, chain, err, layer)
		}
		if len(h) <= 7 && fewest(len(h), allChains(h)) != len(threads) {
			t.Fatalf("Threads(%v): %v are not the fewest", h, threads)
		}
	})
}

// TestThreadsAgain: which threads come is the same each time.
func TestThreadsAgain(t *testing.T) {
	manyHits(15, 100, api.MaxHits, func(h []api.Hit, next func(int) int) {
		first, _ := Threads(h)
		for range 5 {
			if again, err := Threads(h); !sameLists(again, first) || err != api.OK {
				t.Fatalf("Threads(%v): %v, then %v, %d", h, first, again, err)
			}
		}
	})
}

// TestIsChainAndIsLayer: P2.3 and P2.4, for all short lists, also of what is no index.
func TestIsChainAndIsLayer(t *testing.T) {
	manyHits(16, 30, 4, func(h []api.Hit, next func(int) int) {
		chains, layers := allChains(h), allLayers(h)
		var look func(l []int)
		look = func(l []int) {
			isChain := slices.ContainsFunc(chains, func(c []int) bool { return slices.Equal(c, l) })
			if is, err := IsChain(h, l); is != isChain || err != api.OK {
				t.Fatalf("IsChain(%v, %v): %v, %d", h, l, is, err)
			}
			isLayer := slices.ContainsFunc(layers, func(c []int) bool { return slices.Equal(c, l) })
			if is, err := IsLayer(h, l); is != isLayer || err != api.OK {
				t.Fatalf("IsLayer(%v, %v): %v, %d", h, l, is, err)
			}
			if len(l) == 4 {
				return
			}
			for a := -1; a <= len(h); a++ {
				look(append(slices.Clone(l), a))
			}
		}
		look(nil)
	})
}

// longLists are lists that are longer than those that are looked at, or as long.
func longLists(h []api.Hit) [][]int {
	var up []int
	for i := range h {
		up = append(up, i)
	}
	l := [][]int{up[:0], append(slices.Clone(up), len(up)), append(slices.Clone(up), 0), append([]int{-1}, up...)}
	for _, n := range []int{49, 50, 51, 100, 100000} {
		long := slices.Clone(up)
		for len(long) < n {
			long = append(long, len(long))
		}
		l = append(l, long, make([]int, n))
	}
	for _, n := range extremes {
		l = append(l, []int{n}, append(slices.Clone(up), n))
	}
	return l
}

func TestLongLists(t *testing.T) {
	for _, h := range [][]api.Hit{row(api.MaxHits), strangers(api.MaxHits), row(3), strangers(3), hits(0, 0)} {
		for _, l := range longLists(h) {
			for name, call := range map[string]func([]api.Hit, []int) (bool, api.Errno){"IsChain": IsChain, "IsLayer": IsLayer} {
				if is, err := call(h, l); is || err != api.OK {
					t.Errorf("%s(%v, %.60v): %v, %d", name, h, l, is, err)
				}
			}
			for name, call := range map[string]func([]api.Hit, [][]int) (bool, api.Errno){"AreLayers": AreLayers, "AreThreads": AreThreads} {
				if is, err := call(h, [][]int{l}); is || err != api.OK {
					t.Errorf("%s(%v, %.60v): %v, %d", name, h, l, is, err)
				}
			}
		}
		for _, n := range []int{50, 51, 100000} {
			long := make([][]int, n)
			for i := range h {
				long[i] = []int{i}
			}
			for name, call := range map[string]func([]api.Hit, [][]int) (bool, api.Errno){"AreLayers": AreLayers, "AreThreads": AreThreads} {
				if is, err := call(h, long[:len(h)]); !is || err != api.OK {
					t.Errorf("%s(%v) of %d lists: %v, %d", name, h, len(h), is, err)
				}
				if is, err := call(h, long); is || err != api.OK {
					t.Errorf("%s(%v) of %d lists: %v, %d", name, h, n, is, err)
				}
			}
		}
	}
}

// TestAreLayersAndAreThreads: P2.3 and P2.4.
func TestAreLayersAndAreThreads(t *testing.T) {
	h := example()
	for _, c := range []struct {
		lists            [][]int
		layers, threaded bool
	}{
		{[][]int{{0, 1}, {2}}, true, false},
		{[][]int{{2}, {0, 1}}, true, false},
		{[][]int{{1, 0}, {2}}, false, false},
		{[][]int{{0}, {1}, {2}}, true, true},
		{[][]int{{2}, {0}, {1}}, true, true},
		{[][]int{{0, 2}, {1}}, false, true},
		{[][]int{{0}, {1, 2}}, false, true},
		{[][]int{{1, 2}, {0}}, false, true},
		{[][]int{{2, 0}, {1}}, false, false},
		{[][]int{{0, 1, 2}}, false, false},
		{[][]int{{0, 2}, {1, 2}}, false, false},
		{[][]int{{0, 1}, {1}, {2}}, false, false},
		{[][]int{{0}, {1}, {2}, {2}}, false, false},
		{[][]int{{0, 0}, {1}, {2}}, false, false},
		{[][]int{{0}, {1}}, false, false},
		{[][]int{{0, 1}}, false, false},
		{[][]int{{0}, {1}, {2}, {}}, false, false},
		{[][]int{nil, {0, 1}, {2}}, false, false},
		{[][]int{{0}, {1}, {2}, {3}}, false, false},
		{[][]int{{-1}, {0}, {1}, {2}}, false, false},
		{[][]int{{0}, {1}, {3}}, false, false},
		{[][]int{{0, 1}, {math.MaxInt}}, false, false},
		{[][]int{{}}, false, false},
		{[][]int{}, false, false},
		{nil, false, false},
	} {
		if is, err := AreLayers(h, c.lists); is != c.layers || err != api.OK {
			t.Errorf("AreLayers(%v): %v, %d", c.lists, is, err)
		}
		if is, err := AreThreads(h, c.lists); is != c.threaded || err != api.OK {
			t.Errorf("AreThreads(%v): %v, %d", c.lists, is, err)
		}
	}
}

// TestListsThatAreSpoilt: lists are no layers, or threads, any more when a hit is
// taken away, put in once more, or when two lists become one.
func TestListsThatAreSpoilt(t *testing.T) {
	manyHits(17, 300, api.MaxHits, func(h []api.Hit, next func(int) int) {
		layers, _ := Layers(h)
		threads, _ := Threads(h)
		for _, c := range []struct {
			name  string
			are   func([]api.Hit, [][]int) (bool, api.Errno)
			lists [][]int
		}{{"AreLayers", AreLayers, layers}, {"AreThreads", AreThreads, threads}} {
			i := next(len(c.lists))
			less := copied(c.lists)
			less[i] = less[i][1:]
			more := append(copied(c.lists), []int{c.lists[i][0]})
			spoilt := [][][]int{less, more}
			if len(c.lists) > 1 {
				// As few lists as there are cannot become fewer.
				one := copied(c.lists[1:])
				one[0] = append(one[0], c.lists[0]...)
				slices.Sort(one[0])
				spoilt = append(spoilt, one)
			}
			for _, lists := range spoilt {
				if is, err := c.are(h, lists); is || err != api.OK {
					t.Fatalf("%s(%v, %v): %v, %d", c.name, h, lists, is, err)
				}
			}
		}
	})
}
