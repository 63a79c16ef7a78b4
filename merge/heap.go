package merge

import "cmp"

// room is how many items the first array of a heap has.
const room = 8

// item is a thing that stands in a heap by its rank, and, where ranks are the same, by its turn.
type item[K cmp.Ordered, V any] struct {
	rank  K
	turn  int
	thing V
}

// empty is a heap without items: an array, cut so that what is more than it holds comes into a new one.
func empty[K cmp.Ordered, V any]() []item[K, V] {
	var first [room]item[K, V]
	return first[0:0:room]
}

// ahead tells whether one item comes ahead of another.
func ahead[K cmp.Ordered, V any](a, b item[K, V]) bool {
	if c := cmp.Compare(a.rank, b.rank); c != 0 {
		return c < 0
	}
	return a.turn < b.turn
}

// push is the heap with one item more.
func push[K cmp.Ordered, V any](heap []item[K, V], it item[K, V]) []item[K, V] {
	heap = append(heap, it)
	rise(heap)
	return heap
}

// pop is the first item of a heap that is not empty, and the heap without it.
func pop[K cmp.Ordered, V any](heap []item[K, V]) (item[K, V], []item[K, V]) {
	first, end := heap[0], len(heap)-1
	heap[0] = heap[end]
	// What the heap no longer has must not be kept in its spare room.
	heap[end] = item[K, V]{}
	sink(heap[:end])
	return first, heap[:end]
}

// rise lets the last item go up, past those that do not come ahead of it.
func rise[K cmp.Ordered, V any](heap []item[K, V]) {
	for at := len(heap) - 1; at > 0; {
		up := (at - 1) / 2
		if ahead(heap[up], heap[at]) {
			return
		}
		heap[at], heap[up] = heap[up], heap[at]
		at = up
	}
}

// sink lets the first item go down, past those that come ahead of it.
func sink[K cmp.Ordered, V any](heap []item[K, V]) {
	for at := 0; ; {
		first := at
		for kid := 2*at + 1; kid <= 2*at+2 && kid < len(heap); kid++ {
			if ahead(heap[kid], heap[first]) {
				first = kid
			}
		}
		if first == at {
			return
		}
		heap[at], heap[first] = heap[first], heap[at]
		at = first
	}
}
