// Package heaps is what layers 10 and 14 share: things that wait in a heap, in the order that a function tells.
package heaps

import (
	"container/heap"
	"slices"
)

// Heap is things that wait. Of two that compare as one either may be ahead of the other.
type Heap[T any] struct {
	waiting line[T]
}

// New is one in which nothing waits. The function compares two things as those of package cmp do.
func New[T any](compare func(a, b T) int) Heap[T] {
	return Heap[T]{line[T]{compare: compare}}
}

// Put lets a thing wait.
func (h *Heap[T]) Put(x T) {
	heap.Push(&h.waiting, x)
}

// First is the first one in order, if one waits.
func (h *Heap[T]) First() (T, bool) {
	if h.Len() == 0 {
		var none T
		return none, false
	}
	return h.waiting.list[0], true
}

// Take is the same, and it doesn't wait any more.
func (h *Heap[T]) Take() (T, bool) {
	x, ok := h.First()
	if ok {
		heap.Pop(&h.waiting)
	}
	return x, ok
}

// Drop lets one that a function names wait no more, and says whether there was one.
func (h *Heap[T]) Drop(named func(T) bool) bool {
	at := slices.IndexFunc(h.waiting.list, named)
	if at < 0 {
		return false
	}
	heap.Remove(&h.waiting, at)
	return true
}

// All are those that wait, in order, in new memory.
func (h *Heap[T]) All() []T {
	return slices.SortedFunc(slices.Values(h.waiting.list), h.waiting.compare)
}

// Len is how many wait.
func (h *Heap[T]) Len() int {
	return h.waiting.Len()
}
