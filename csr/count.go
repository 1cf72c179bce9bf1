package csr

import "tappet/api"

// Bits of Inhibit.
const (
	inhibitCycle   = 1 << 0
	inhibitInstret = 1 << 2
)

// lineBits are the interrupts that lines of devices ask for.
const lineBits = machineInts | externalInt

// Pending returns the pending interrupts: those that were written, and those whose lines are set.
func Pending(c api.Csrs, e api.Env) uint64 { return c.Ip | e.Lines&lineBits }

// Cycle returns the value of the cycle counter, which has gone on since the cycle At unless it is inhibited.
func Cycle(c api.Csrs, e api.Env) uint64 {
	if c.Inhibit&inhibitCycle != 0 {
		return c.Cycle
	}
	return c.Cycle + (e.Cycle - c.At)
}

// Count returns c behind an instruction: one that retired is counted, unless it wrote the counter itself, or the counter is inhibited.
func Count(c api.Csrs, retired, wrote bool) api.Csrs {
	if retired && !wrote && c.Inhibit&inhibitInstret == 0 {
		c.Instret++
	}
	return c
}

// events returns the event counter k, of which c holds by how much it is ahead of what the outer world has counted.
func events(c api.Csrs, k int, e api.Env) uint64 { return c.Hpm[k] + e.Hpm[k] }
