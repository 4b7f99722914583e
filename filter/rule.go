package filter

import "omnibus/api"

// What Kinds adds up.
const (
	classic = 1
	fd      = 2
	xl      = 4
)

// mayBe says whether a rule may be.
func (r Rule) mayBe() bool {
	return r.Kinds >= classic && r.Kinds <= classic+fd+xl
}

// twin says whether another rule is the same but for In.
func (r Rule) twin(other Rule) bool {
	r.In = other.In
	return r == other
}

// seen is a frame that may be, of which rules are asked that may be.
type seen api.Frame

// fits says whether a rule is of the frame. A kind's fields that the frame hasn't are held as the zeros that they are.
func (s seen) fits(r Rule) bool {
	return r.Kinds&s.kind() != 0 &&
		alike(s.ID, r.ID, r.IDMask) &&
		alike(s.SDT, r.SDT, r.SDTMask) &&
		alike(s.VCID, r.VCID, r.VCIDMask) &&
		alike(s.AF, r.AF, r.AFMask)
}

// kind is what Kinds has for the frame's kind.
func (s seen) kind() int {
	switch s.Kind {
	case api.Classic:
		return classic
	case api.FD:
		return fd
	case api.XL:
		return xl
	}
	return 0
}

// alike says whether two numbers are one in all bits that a mask has.
func alike[N uint8 | uint32](a, b, mask N) bool {
	return (a^b)&mask == 0
}
