package node

import (
	"omnibus/api"
	"omnibus/classic"
	"omnibus/fd"
	"omnibus/frame"
	"omnibus/xl"
)

// load is a frame to send, and what it is on the wire.
type load struct {
	frame api.Frame
	wire  api.Wire
}

// loaded has a copy of a frame that may be, since who hands it in may change it.
func loaded(f api.Frame) *load {
	return &load{frame: frame.Copy(f), wire: onTheWire(f)}
}

// onTheWire is what a frame that may be is there: no layer below refuses it.
func onTheWire(f api.Frame) api.Wire {
	var w api.Wire
	switch f.Kind {
	case api.Classic:
		w, _ = classic.Wire(f)
	case api.FD:
		w, _ = fd.Wire(f)
	case api.XL:
		w, _ = xl.Wire(f)
	}
	return w
}
