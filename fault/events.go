package fault

// What an error in sending costs, and how far the counters go: a TEC above mostOn is Off, and the last one that isn't can still rise once.
const (
	cost       = 8
	mostActive = 127
	mostOn     = 255
	mostTEC    = mostOn + cost
	mostREC    = 255
)

// eased is the REC of a passive node that has got a frame.
const eased = 120

func within(n, most int) bool {
	return n >= 0 && n <= most
}

func (s State) mode() int {
	switch {
	case s.Off:
		return Off
	case s.TEC > mostActive || s.REC > mostActive:
		return Passive
	}
	return Active
}

// behind is the state behind an event that there is. To one that is Off nothing happens but Restart.
func (s State) behind(event int) State {
	if s.Off && event != Restart {
		return s
	}
	return doings()[event](s)
}

// doings are what each event does, at its number.
func doings() [Restart + 1]func(State) State {
	return [...]func(State) State{
		Sent:      State.sent,
		Got:       State.got,
		SendError: State.sendError,
		GetError:  State.getError,
		Unheard:   State.unheard,
		Restart:   State.restart,
	}
}

func (s State) sent() State {
	s.TEC = max(s.TEC-1, 0)
	return s
}

func (s State) got() State {
	if s.REC > mostActive {
		s.REC = eased
		return s
	}
	s.REC = max(s.REC-1, 0)
	return s
}

func (s State) sendError() State {
	s.TEC += cost
	s.Off = s.TEC > mostOn
	return s
}

func (s State) getError() State {
	s.REC = min(s.REC+1, mostREC)
	return s
}

// unheard spares a passive node, so that one that is alone never goes Off.
func (s State) unheard() State {
	if s.mode() == Active {
		return s.sendError()
	}
	return s
}

func (s State) restart() State {
	if s.Off {
		return State{}
	}
	return s
}
