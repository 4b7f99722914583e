package frame

import (
	"sort"

	"omnibus/api"
)

// plain is how many sizes of Classic and FD frames are their own codes: 0 to 8.
const plain = 9

// longer are an FD frame's other sizes, by how far their codes are behind the plain ones.
var longer = [...]int{12, 16, 20, 24, 32, 48, 64}

// place is a code: where a size stands among its kind's, which rise.
type place int

func (p place) classic() int {
	return int(p)
}

func (p place) fd() int {
	if p < plain {
		return int(p)
	}
	return longer[p-plain]
}

func (p place) xl() int {
	return int(p) + 1
}

// sizes are a kind's: how many there are, and how the one at a place is asked.
type sizes struct {
	count int
	of    func(place) int
}

// sizesOf are the sizes of a kind: none, if there is no such kind.
func sizesOf(kind int) sizes {
	switch kind {
	case api.Classic:
		return sizes{plain, place.classic}
	case api.FD:
		return sizes{plain + len(longer), place.fd}
	case api.XL:
		return sizes{api.MaxData, place.xl}
	}
	return sizes{}
}

func (s sizes) at(code int) int {
	return s.of(place(code))
}

// fit is the code of the least size that is so much or more, or the count, if all are less.
func (s sizes) fit(size int) int {
	return sort.Search(s.count, func(code int) bool {
		return s.at(code) >= size
	})
}
