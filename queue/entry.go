package queue

import (
	"cmp"

	"omnibus/api"
	"omnibus/frame"
)

// entry is a frame that waits, its number, and its key, which is reckoned once: the frame doesn't change.
type entry struct {
	key uint64
	no  int
	f   api.Frame
}

// compare says which of two stands first: of one key the one that was put first.
func (x entry) compare(y entry) int {
	return cmp.Or(cmp.Compare(x.key, y.key), cmp.Compare(x.no, y.no))
}

// item is what is handed out of it: a copy, since it may wait on.
func (x entry) item() Item {
	return Item{No: x.no, F: frame.Copy(x.f)}
}
