package plic

import (
	"tappet/api"
)

// What a register holds.
const (
	nothing = iota
	priority
	pending
	enabled
	threshold
	claims
)

// Offsets of the registers: of source 0, if there were one, and of context 0, from which those of context 1 are a step away.
const (
	priorityAt   = 0
	priorityStep = 4
	pendingAt    = 0x1000
	enabledAt    = 0x2000
	enabledStep  = 0x80
	thresholdAt  = 0x200000
	claimsAt     = 0x200004
	contextStep  = 0x1000
)

const (
	registerSize = 4

	// priorityBits are those of a priority, and of a threshold.
	priorityBits = 7
)

// register is what a register holds, and of which source or context.
type register struct {
	holds, of int
}

// at returns the register at off; one that holds nothing, if none is there.
func at(off uint64) register {
	if off == pendingAt {
		return register{holds: pending}
	}
	for s := range sources {
		if off == priorityAt+priorityStep*uint64(s+1) {
			return register{priority, s + 1}
		}
	}
	for c := range contexts {
		switch off {
		case enabledAt + enabledStep*uint64(c):
			return register{enabled, c}
		case thresholdAt + contextStep*uint64(c):
			return register{threshold, c}
		case claimsAt + contextStep*uint64(c):
			return register{claims, c}
		}
	}
	return register{}
}

// find returns the register at off, of size bytes.
func (p *Plic) find(off uint64, size int) (register, api.Errno) {
	if p == nil {
		return register{}, api.ErrNil
	}
	r := at(off)
	if size != registerSize || r.holds == nothing {
		return register{}, api.ErrBus
	}
	return r, api.OK
}

// Read returns the register at off, of size bytes; where claims are made, it makes one.
func (p *Plic) Read(off uint64, size int) (uint64, api.Errno) {
	r, e := p.find(off, size)
	if e != api.OK {
		return 0, e
	}
	return uint64(p.get(r)), api.OK
}

func (p *Plic) get(r register) uint32 {
	switch r.holds {
	case priority:
		return p.prio[r.of]
	case pending:
		return p.pending
	case enabled:
		return p.enable[r.of]
	case threshold:
		return p.thresh[r.of]
	default:
		return uint32(p.claim(r.of))
	}
}

// Write sets the register at off, of size bytes, to the bits of v that it has; where claims are made, it ends one.
func (p *Plic) Write(off uint64, size int, v uint64) api.Errno {
	r, e := p.find(off, size)
	if e != api.OK {
		return e
	}
	if r.holds == pending {
		return api.ErrBus
	}
	p.set(r, uint32(v))
	return api.OK
}

func (p *Plic) set(r register, v uint32) {
	switch r.holds {
	case priority:
		p.prio[r.of] = v & priorityBits
	case enabled:
		p.enable[r.of] = v & sourceBits
	case threshold:
		p.thresh[r.of] = v & priorityBits
	case claims:
		p.complete(r.of, v)
	}
}
