package order

import (
	"container/heap"

	"omnibus/api"
)

// place is where a frame stands in a list, and its key.
type place struct {
	key uint64
	at  int
}

// ahead says whether p is told ahead of q: of two frames of one key the one that stands first.
func (p place) ahead(q place) bool {
	if p.key != q.key {
		return p.key < q.key
	}
	return p.at < q.at
}

// places are a heap.
type places struct {
	waiting []place
	ahead   func(p, q place) bool
}

// placesOf are the places of all frames of a list.
func placesOf(l []api.Frame) (*places, api.Errno) {
	p := &places{ahead: place.ahead}
	for at, f := range l {
		key, e := Key(f)
		if e != api.OK {
			return nil, e
		}
		p.waiting = append(p.waiting, place{key, at})
	}
	heap.Init(p)
	return p, api.OK
}

// take is the first place of all that wait, which doesn't any more. There is one.
func (p *places) take() int {
	return heap.Pop(p).(place).at
}

func (p *places) Len() int {
	return len(p.waiting)
}

func (p *places) Less(i, j int) bool {
	return p.ahead(p.waiting[i], p.waiting[j])
}

func (p *places) Swap(i, j int) {
	p.waiting[i], p.waiting[j] = p.waiting[j], p.waiting[i]
}

// Push and Pop are what the heap asks for at the list's end.
func (p *places) Push(x any) {
	p.waiting = append(p.waiting, x.(place))
}

func (p *places) Pop() any {
	end := len(p.waiting) - 1
	last := p.waiting[end]
	p.waiting = p.waiting[:end]
	return last
}
