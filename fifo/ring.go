package fifo

import "omnibus/api"

// ring is frames one behind the other in an array that goes round: behind its last place comes its first one.
type ring struct {
	places       [api.MaxFifo]api.Frame
	first, count int
}

// place is where the one stands that has so many ahead of it.
func (r *ring) place(ahead int) int {
	return (r.first + ahead) % len(r.places)
}

// at is the one that has so many ahead of it, fewer than there are.
func (r *ring) at(ahead int) api.Frame {
	return r.places[r.place(ahead)]
}

// put lets one stand last. It is for who knows that a place is free.
func (r *ring) put(f api.Frame) {
	r.places[r.place(r.count)] = f
	r.count++
}

// take is the first one, that leaves its place empty: what has left isn't kept. It is for who knows that there is one.
func (r *ring) take() api.Frame {
	f := r.at(0)
	r.places[r.first] = api.Frame{}
	r.first = r.place(1)
	r.count--
	return f
}
