package bus

import (
	"slices"

	"omnibus/api"
	"omnibus/node"
)

const (
	dominant  = 0
	recessive = 1
)

// at is the node at a place.
func (b *Bus) at(i int) (*node.Node, api.Errno) {
	if b == nil {
		return nil, api.ErrNil
	}
	if i < 0 || i >= len(b.nodes) {
		return nil, api.ErrNone
	}
	return b.nodes[i], api.OK
}

// ask hands a call on to the node at a place, if there is one.
func ask[A any](b *Bus, i int, call func(*node.Node) A) (A, api.Errno) {
	n, e := b.at(i)
	if e != api.OK {
		var none A
		return none, e
	}
	return call(n), api.OK
}

// all hands a call on to each node, in order.
func all[A any](nodes []*node.Node, call func(*node.Node) A) []A {
	l := make([]A, len(nodes))
	for i, n := range nodes {
		l[i] = call(n)
	}
	return l
}

// wire is what it has of all that is driven.
func wire(driven []byte) byte {
	if slices.Contains(driven, dominant) {
		return dominant
	}
	return recessive
}

// sampled are what comes of the wire's bit at each node, whose sample is turned if its bit of turned says so.
func sampled(nodes []*node.Node, level byte, turned uint32) []node.Event {
	l := make([]node.Event, len(nodes))
	for i, n := range nodes {
		l[i] = taken(n.Sample, level^byte(turned>>i&1))
	}
	return l
}

// taken is what comes of a bit that is one: no node refuses that.
func taken(sample func(byte) (node.Event, api.Errno), b byte) node.Event {
	is, _ := sample(b)
	return is
}
