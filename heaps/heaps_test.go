package heaps_test

import (
	"cmp"
	"math/rand"
	"slices"
	"testing"

	"omnibus/heaps"
)

func of(l []int) heaps.Heap[int] {
	h := heaps.New(cmp.Compare[int])
	for _, n := range l {
		h.Put(n)
	}
	return h
}

func taken(h heaps.Heap[int]) []int {
	var l []int
	for range h.Len() {
		n, ok := h.Take()
		if ok {
			l = append(l, n)
		}
	}
	return l
}

func TestTakenInOrder(t *testing.T) {
	r := rand.New(rand.NewSource(2))
	for size := range 100 {
		l := r.Perm(size)
		if size%3 == 0 {
			l = append(l, l...)
		}
		want := slices.Sorted(slices.Values(l))
		h := of(l)
		if all := h.All(); !slices.Equal(all, want) || h.Len() != len(l) {
			t.Errorf("All of %v: %v", l, all)
		}
		if got := taken(h); !slices.Equal(got, want) {
			t.Errorf("of %v: %v", l, got)
		}
	}
}

func TestTheOrderIsWhatTheFunctionTells(t *testing.T) {
	h := heaps.New(func(a, b string) int { return cmp.Compare(len(a), len(b)) })
	for _, s := range []string{"three", "a", "four"} {
		h.Put(s)
	}
	if all := h.All(); !slices.Equal(all, []string{"a", "four", "three"}) {
		t.Error(all)
	}
	if s, ok := h.First(); s != "a" || !ok {
		t.Error(s, ok)
	}
}

func TestOfNone(t *testing.T) {
	h := of(nil)
	for range 2 {
		a, first := h.First()
		b, take := h.Take()
		if a != 0 || b != 0 || first || take || h.Len() != 0 || len(h.All()) != 0 || h.Drop(func(int) bool { return true }) {
			t.Error(a, b, first, take, h.Len())
		}
		h.Put(5)
		if n, ok := h.First(); n != 5 || !ok || h.Len() != 1 {
			t.Error(n, ok, h.Len())
		}
		if n, ok := h.Take(); n != 5 || !ok || h.Len() != 0 {
			t.Error(n, ok, h.Len())
		}
	}
}

func TestDrop(t *testing.T) {
	for size := range 30 {
		for gone := range size {
			r := rand.New(rand.NewSource(int64(size*100 + gone)))
			h := of(r.Perm(size))
			named := func(n int) bool { return n == gone }
			if !h.Drop(named) || h.Drop(named) || h.Len() != size-1 {
				t.Errorf("%d of %d isn't dropped", gone, size)
			}
			want := without(size, gone)
			if got := taken(h); !slices.Equal(got, want) {
				t.Errorf("%d of %d dropped: %v", gone, size, got)
			}
		}
	}
}

func without(size, gone int) []int {
	var l []int
	for n := range size {
		if n != gone {
			l = append(l, n)
		}
	}
	return l
}

func TestAllIsNew(t *testing.T) {
	h := of([]int{3, 1, 2})
	l := h.All()
	l = l[:cap(l)]
	for i := range l {
		l[i] = -1
	}
	if got := h.All(); !slices.Equal(got, []int{1, 2, 3}) {
		t.Error(got)
	}
}
