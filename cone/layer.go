package cone

import "slices"

// isLayer reports whether a list is a layer.
func (o order) isLayer(l []int) bool {
	if !o.isList(l) {
		return false
	}
	for i, b := range l {
		for _, a := range l[:i] {
			if a >= b || o.know(a, b) {
				return false
			}
		}
	}
	return true
}

// areLayers reports whether lists are layers.
func (o order) areLayers(lists [][]int) bool {
	return o.haveEach(lists, o.isLayer)
}

// layers returns the layers that come about if all hits before which there is
// none are the first layer, and so on with those that are left.
func (o order) layers() [][]int {
	var layers [][]int
	for left := o.all(); len(left) > 0; {
		layer := o.firstOf(left)
		layers = append(layers, layer)
		left = kept(left, func(a int) bool { return !slices.Contains(layer, a) })
	}
	return layers
}

// layer returns the longest layer, of several the one that comes first.
func (o order) layer() []int {
	return o.longestLayer(o.all())
}

// longestLayer returns the longest layer of some hits, of several the one that comes first.
func (o order) longestLayer(some []int) []int {
	if len(some) == 0 {
		return nil
	}
	first, others := some[0], some[1:]
	strangers := kept(others, func(a int) bool { return !o.know(first, a) })
	with := append([]int{first}, o.longestLayer(strangers)...)
	// A hit that knows of no other one never hinders. Without this shortcut, hits
	// that are all strangers would take 2^14 calls.
	if len(strangers) == len(others) {
		return with
	}
	if without := o.longestLayer(others); len(without) > len(with) {
		return without
	}
	return with
}
