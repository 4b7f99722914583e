package node

import (
	"omnibus/api"
	"omnibus/fault"
	"omnibus/scan"
)

// How many bits a phase takes.
const (
	joinBits    = 11
	flagBits    = 6
	delimBits   = 8
	pauseBits   = 3
	suspendBits = 8
	recoverBits = 16 * joinBits
)

// takes are what a bit does, at each phase's number.
func takes() [Recover + 1]func(*Node, byte) Event {
	return [...]func(*Node, byte) Event{
		Join:     (*Node).takeJoin,
		Idle:     (*Node).takeIdle,
		Send:     (*Node).takeSend,
		Receive:  (*Node).takeReceive,
		Last:     (*Node).takeLast,
		Flag:     (*Node).takeFlag,
		Overload: (*Node).takeFlag,
		Delim:    (*Node).takeDelim,
		Pause:    (*Node).takePause,
		Suspend:  (*Node).takeSuspend,
		Away:     (*Node).takeAway,
		Recover:  (*Node).takeRecover,
	}
}

func (n *Node) takeJoin(b byte) Event {
	return n.ones(b, joinBits, Idle)
}

// takeIdle takes the first bit of its own frame as one at Send, so that it was the last one to send though that very bit be wrong.
func (n *Node) takeIdle(b byte) Event {
	n.sender = n.load != nil
	if n.sender {
		n.beginRow(Send)
		return n.takeSend(b)
	}
	if b == dominant {
		return n.hear(b)
	}
	return Event{}
}

func (n *Node) takeSend(b byte) Event {
	row, _ := n.row.See(b)
	w, out := n.load.wire, n.driveFrame()
	switch {
	case n.count == w.Ack && b == recessive:
		return n.wrong(fault.Unheard, api.ErrNone)
	case n.count == w.Ack || b == out:
		return n.sentOne()
	case out == recessive && n.count < w.Arb:
		return n.lose(row)
	}
	return n.wrong(fault.SendError, api.ErrForm)
}

func (n *Node) takeReceive(b byte) Event {
	row, _ := n.row.See(b)
	return n.received(row)
}

func (n *Node) takeLast(b byte) Event {
	if b == dominant {
		n.begin(Overload)
	} else {
		n.begin(Pause)
	}
	return Event{}
}

func (n *Node) takeFlag(byte) Event {
	n.step(flagBits, Delim)
	return Event{}
}

func (n *Node) takeDelim(b byte) Event {
	return n.ones(b, delimBits, Pause)
}

func (n *Node) takePause(b byte) Event {
	switch {
	case b == recessive && n.sender && n.mode() == fault.Passive:
		n.step(pauseBits, Suspend)
	case b == recessive:
		n.step(pauseBits, Idle)
	case n.count == pauseBits-1:
		return n.hear(b)
	default:
		n.begin(Overload)
	}
	return Event{}
}

func (n *Node) takeSuspend(b byte) Event {
	if b == dominant {
		return n.hear(b)
	}
	n.step(suspendBits, Idle)
	return Event{}
}

func (n *Node) takeAway(byte) Event {
	return Event{}
}

func (n *Node) takeRecover(b byte) Event {
	if b == dominant {
		n.count -= n.count % joinBits
		return Event{}
	}
	n.step(recoverBits, Idle)
	if n.phase == Idle {
		n.counted(fault.Restart)
	}
	return Event{}
}

// begin has it at the beginning of a phase, without a row.
func (n *Node) begin(phase int) {
	n.phase, n.count, n.row = phase, 0, nil
}

// beginRow has it there with a row of no bit.
func (n *Node) beginRow(phase int) {
	n.begin(phase)
	n.row = scan.New(n.knows)
}

// step counts a bit more, the last of which leads to the next phase.
func (n *Node) step(bits, next int) {
	n.count++
	if n.count == bits {
		n.begin(next)
	}
}

// ones counts 1s that must follow one another.
func (n *Node) ones(b byte, bits, next int) Event {
	if b == dominant {
		n.count = 0
		return Event{}
	}
	n.step(bits, next)
	return Event{}
}

// hear has it at Receive, of a row of one bit.
func (n *Node) hear(b byte) Event {
	n.beginRow(Receive)
	return n.takeReceive(b)
}

// sentOne goes on behind a bit of the frame that came as it must.
func (n *Node) sentOne() Event {
	n.count++
	if n.count < len(n.load.wire.Bits) {
		return Event{}
	}
	f := n.load.frame
	n.load = nil
	n.counted(fault.Sent)
	n.begin(Pause)
	return Event{Kind: Sent, F: f}
}

// lose goes on as one that receives the row that it had begun to send.
func (n *Node) lose(row scan.Status) Event {
	n.sender = false
	n.phase = Receive
	if is := n.received(row); is.Kind != None {
		return is
	}
	return Event{Kind: Lost}
}

// received goes on by what the row is.
func (n *Node) received(row scan.Status) Event {
	switch row.Kind {
	case scan.Done:
		n.counted(fault.Got)
		n.begin(Last)
		return Event{Kind: Got, F: row.F}
	case scan.Bad:
		return n.wrong(fault.GetError, row.Err)
	case scan.Alien:
		n.begin(Join)
	default:
		n.count = n.row.Seen()
	}
	return Event{}
}

// wrong counts what is, and tells the others by a flag, if it isn't off by that.
func (n *Node) wrong(event int, e api.Errno) Event {
	n.counted(event)
	mode := n.mode()
	n.quiet = mode == fault.Passive
	if mode == fault.Off {
		n.begin(Away)
	} else {
		n.begin(Flag)
	}
	return Event{Kind: Wrong, Err: e}
}

func (n *Node) counted(event int) {
	n.fault, _ = fault.Next(n.fault, event)
}

func (n *Node) mode() int {
	mode, _ := fault.Mode(n.fault)
	return mode
}
