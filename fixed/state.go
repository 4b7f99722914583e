package fixed

import "omnibus/api"

// most is how many bits at most may stand between two stuff bits.
const most = 64

// The numbers of a state.
const (
	every = iota // how many bits there are from one stuff bit to the next
	left         // how many of them are still to come
	last         // the raw bit that came last, or what is ahead of all
	size         // how many raw bits have come
	numbers
)

// state is what a raw row has come to.
type state [numbers]int

func begin(prev byte, w Way) (*state, api.Errno) {
	if prev > 1 || w.Every < 1 || w.Every > most {
		return nil, api.ErrArg
	}
	s := &state{every: w.Every, left: w.Every, last: int(prev)}
	if w.Ahead {
		s[left] = 0
	}
	return s, api.OK
}

// due says that a stuff bit is ahead of the next bit, if that one comes.
func (s *state) due() bool {
	return s[left] == 0
}

func (s *state) add(b int) {
	s[last] = b
	s[size]++
}

// stuff goes on by a stuff bit, and answers it.
func (s *state) stuff() byte {
	s.add(1 - s[last])
	s[left] = s[every]
	return byte(s[last])
}

// plain goes on by a bit that is none.
func (s *state) plain(b byte) {
	s.add(int(b))
	s[left]--
}
