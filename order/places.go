package order

import (
	"cmp"

	"omnibus/api"
	"omnibus/heaps"
)

// place is where a frame stands in a list, and its key.
type place struct {
	key uint64
	at  int
}

// compare says which of two is told first: of two frames of one key the one that stands first.
func (p place) compare(q place) int {
	return cmp.Or(cmp.Compare(p.key, q.key), cmp.Compare(p.at, q.at))
}

// placesOf are the places of all frames of a list.
func placesOf(l []api.Frame) (heaps.Heap[place], api.Errno) {
	p := heaps.New(place.compare)
	for at, f := range l {
		key, e := Key(f)
		if e != api.OK {
			return heaps.Heap[place]{}, e
		}
		p.Put(place{key, at})
	}
	return p, api.OK
}
