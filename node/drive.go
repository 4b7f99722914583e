package node

import "omnibus/scan"

const (
	dominant  = 0
	recessive = 1
)

// drives are what tells the bit that a node drives, at each phase's number.
func drives() [Recover + 1]func(*Node) byte {
	return [...]func(*Node) byte{
		Join:     (*Node).driveNothing,
		Idle:     (*Node).driveFirst,
		Send:     (*Node).driveFrame,
		Receive:  (*Node).driveAnswer,
		Last:     (*Node).driveNothing,
		Flag:     (*Node).driveFlag,
		Overload: (*Node).driveOverload,
		Delim:    (*Node).driveNothing,
		Pause:    (*Node).driveNothing,
		Suspend:  (*Node).driveNothing,
		Away:     (*Node).driveNothing,
		Recover:  (*Node).driveNothing,
	}
}

func (n *Node) driveNothing() byte {
	return recessive
}

func (n *Node) driveFirst() byte {
	if n.load == nil {
		return recessive
	}
	return n.driveFrame()
}

func (n *Node) driveFrame() byte {
	return n.load.wire.Bits[n.count]
}

// driveAnswer tells who sends that the frame is right so far.
func (n *Node) driveAnswer() byte {
	if is, _ := n.row.Status(); is.Kind == scan.Slot {
		return dominant
	}
	return recessive
}

func (n *Node) driveFlag() byte {
	if n.quiet {
		return recessive
	}
	return dominant
}

func (n *Node) driveOverload() byte {
	return dominant
}
