package csr

import "tappet/api"

// Bits of mie and mip.
const (
	externalInt = 1 << api.IntSE
	softwareInt = 1 << api.IntSS
	superInts   = softwareInt | 1<<api.IntST | externalInt
	machineInts = 1<<api.IntMS | 1<<api.IntMT | 1<<api.IntME
)

// The bits that are stored.
const (
	sstatusBits   = api.StSIE | api.StSPIE | api.StSPP | api.StSUM | api.StMXR
	statusBits    = sstatusBits | api.StMIE | api.StMPIE | api.StMPP | api.StMPRV | api.StTVM | api.StTW | api.StTSR
	edelegBits    = 0xb3ff
	tvecBits      = everyBit &^ 2
	counterenBits = 0x7f
	inhibitBits   = counterenBits &^ 2 // time is never inhibited
	epcBits       = everyBit &^ 3
	causeBits     = api.CauseInt | 63
	eventBits     = 7

	everyBit uint64 = 1<<64 - 1
)

const (
	noPrivilege = 2 << 11 // in MPP

	modeShift = 60
	modeBare  = 0
	modeSv39  = 8

	lastEvent = 5
)

// store returns c behind a write of v to CSR n, which can be written.
func store(c api.Csrs, n int, v uint64, e api.Env) api.Csrs {
	switch n {
	case api.CsrMstatus:
		c.Status = status(c.Status, v)
	case api.CsrSstatus:
		c.Status = replace(c.Status, v, sstatusBits)
	case api.CsrMedeleg:
		c.Edeleg = v & edelegBits
	case api.CsrMideleg:
		c.Ideleg = v & superInts
	case api.CsrMie:
		c.Ie = v & (superInts | machineInts)
	case api.CsrSie:
		c.Ie = replace(c.Ie, v, c.Ideleg)
	case api.CsrMip:
		c.Ip = v & superInts
	case api.CsrSip:
		c.Ip = replace(c.Ip, v, c.Ideleg&softwareInt)
	case api.CsrMtvec:
		c.Tvec = v & tvecBits
	case api.CsrStvec:
		c.Stvec = v & tvecBits
	case api.CsrMcounteren:
		c.Counteren = v & counterenBits
	case api.CsrScounteren:
		c.Scounteren = v & counterenBits
	case api.CsrInhibit:
		c.Cycle, c.At, c.Inhibit = Cycle(c, e), e.Cycle, v&inhibitBits
	case api.CsrMscratch:
		c.Scratch = v
	case api.CsrSscratch:
		c.Sscratch = v
	case api.CsrMtval:
		c.Tval = v
	case api.CsrStval:
		c.Stval = v
	case api.CsrMepc:
		c.Epc = v & epcBits
	case api.CsrSepc:
		c.Sepc = v & epcBits
	case api.CsrMcause:
		c.Cause = v & causeBits
	case api.CsrScause:
		c.Scause = v & causeBits
	case api.CsrSatp:
		c.Satp = translation(c.Satp, v)
	case api.CsrMcycle:
		c.Cycle, c.At = v, e.Cycle
	case api.CsrMinstret:
		c.Instret = v
	case api.CsrEvent3, api.CsrEvent3 + 1, api.CsrEvent3 + 2, api.CsrEvent3 + 3:
		c.Event[n-api.CsrEvent3] = event(v)
	case api.CsrHpm3, api.CsrHpm3 + 1, api.CsrHpm3 + 2, api.CsrHpm3 + 3:
		c.Hpm[n-api.CsrHpm3] = v - e.Hpm[n-api.CsrHpm3]
	}
	return c
}

// replace returns old with the bits of which from those of v.
func replace(old, v, which uint64) uint64 { return old&^which | v&which }

// status returns what mstatus becomes; MPP never becomes a privilege that there is not.
func status(old, v uint64) uint64 {
	if v&api.StMPP == noPrivilege {
		v = replace(v, old, api.StMPP)
	}
	return v & statusBits
}

// translation returns what satp becomes: as it was, if v asks for a mode that there is not.
func translation(old, v uint64) uint64 {
	mode := v >> modeShift
	if mode != modeBare && mode != modeSv39 {
		return old
	}
	return v
}

func event(v uint64) uint64 {
	if v&eventBits > lastEvent {
		return 0
	}
	return v & eventBits
}
