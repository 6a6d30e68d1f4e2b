package bag

import (
	"iter"
	"slices"
)

// item is a number, and what stands there.
type item[V any] struct {
	at int64
	v  V
}

// node has items, rising. Above the lowest level the node below at a place has what stands ahead of the item at that place, the last one what stands behind all items.
type node[V any] struct {
	items []item[V]
	below []*node[V] // none at the lowest level
}

// step is a node on a way down, and the place of the item, or of the node below, that is meant there.
type step[V any] struct {
	n     *node[V]
	place int
}

// wayTo is the way down to where a number stands, and true; or to where it belongs at the lowest level, and false.
func (n *node[V]) wayTo(at int64) ([]step[V], bool) {
	var way []step[V]
down:
	for n != nil {
		for place := range n.items {
			if n.items[place].at < at {
				continue
			}
			way = append(way, step[V]{n, place})
			if n.items[place].at == at {
				return way, true
			}
			n = n.under(place)
			continue down
		}
		last := len(n.items)
		way = append(way, step[V]{n, last})
		n = n.under(last)
	}
	return way, false
}

// toLowest goes on with a way to an item down to the lowest level, where alone one can be taken out: the item next behind comes up in its stead, and the way ends where that one stood.
func toLowest[V any](way []step[V]) []step[V] {
	end := way[len(way)-1]
	if end.n.below == nil {
		return way
	}
	way[len(way)-1].place++
	for n := end.n.under(end.place + 1); n != nil; n = n.under(0) {
		way = append(way, step[V]{n, 0})
	}
	end.n.items[end.place] = way[len(way)-1].n.items[0]
	return way
}

// under is the node below at a place, nil at the lowest level.
func (n *node[V]) under(place int) *node[V] {
	if n.below == nil {
		return nil
	}
	return n.below[place]
}

// numbers goes through the numbers from from on, rising.
func (n *node[V]) numbers(from int64) iter.Seq[int64] {
	return func(yield func(int64) bool) {
		n.walk(from, yield)
	}
}

// walk hands on the numbers from from on, and tells whether more are wanted.
func (n *node[V]) walk(from int64, yield func(int64) bool) bool {
	if n == nil {
		return true
	}
	for place := range n.items {
		at := n.items[place].at
		if at < from {
			continue
		}
		if !n.under(place).walk(from, yield) || !yield(at) {
			return false
		}
	}
	return n.under(len(n.items)).walk(from, yield)
}

// levels goes through the levels from this node down, the nodes of each from the left.
func (n *node[V]) levels() iter.Seq[[]*node[V]] {
	return func(yield func([]*node[V]) bool) {
		if n == nil {
			return
		}
		for level := []*node[V]{n}; len(level) > 0; level = allBelow(level) {
			if !yield(level) {
				return
			}
		}
	}
}

func allBelow[V any](level []*node[V]) []*node[V] {
	var below []*node[V]
	for _, n := range level {
		below = append(below, n.below...)
	}
	return below
}

// insert puts an item in at a place, and, if there is one, the node right of it.
func (n *node[V]) insert(place int, x item[V], right *node[V]) {
	n.items = slices.Insert(n.items, place, x)
	if right != nil {
		n.below = slices.Insert(n.below, place+1, right)
	}
}

// part leaves the node what stands ahead of its middle item. It answers that item, and a new node of what stands behind it.
func (n *node[V]) part() (item[V], *node[V]) {
	place := len(n.items) / 2
	middle := n.items[place]
	right := &node[V]{items: slices.Clone(n.items[place+1:])}
	n.items = slices.Delete(n.items, place, len(n.items))
	if n.below != nil {
		right.below = slices.Clone(n.below[place+1:])
		n.below = slices.Delete(n.below, place+1, len(n.below))
	}
	return middle, right
}

// mend gives the node below at a place, which has too few, an item of a node beside it that can spare one, or else makes one node of the two.
func (n *node[V]) mend(place int) {
	switch {
	case place > 0 && len(n.below[place-1].items) > Least:
		n.moveRight(place - 1)
	case place < len(n.items) && len(n.below[place+1].items) > Least:
		n.moveLeft(place)
	case place > 0:
		n.join(place - 1)
	default:
		n.join(place)
	}
}

// moveRight moves the item at a place down to the right, and the last one from the left up.
func (n *node[V]) moveRight(place int) {
	left, right := n.below[place], n.below[place+1]
	last := len(left.items) - 1
	right.items = slices.Insert(right.items, 0, n.items[place])
	n.items[place] = left.items[last]
	left.items = slices.Delete(left.items, last, last+1)
	if left.below != nil {
		right.below = slices.Insert(right.below, 0, left.below[last+1])
		left.below = slices.Delete(left.below, last+1, last+2)
	}
}

// moveLeft moves the item at a place down to the left, and the first one from the right up.
func (n *node[V]) moveLeft(place int) {
	left, right := n.below[place], n.below[place+1]
	left.items = append(left.items, n.items[place])
	n.items[place] = right.items[0]
	right.items = slices.Delete(right.items, 0, 1)
	if right.below != nil {
		left.below = append(left.below, right.below[0])
		right.below = slices.Delete(right.below, 0, 1)
	}
}

// join makes one node of the item at a place and the two nodes beside it.
func (n *node[V]) join(place int) {
	left, right := n.below[place], n.below[place+1]
	left.items = append(left.items, n.items[place])
	left.items = append(left.items, right.items...)
	left.below = append(left.below, right.below...)
	n.items = slices.Delete(n.items, place, place+1)
	n.below = slices.Delete(n.below, place+1, place+2)
}
