package csr

import "tappet/api"

const (
	// The widths of registers that status and misa tell: 2 says 64 bits.
	userWidth = 2 << 32
	ownWidth  = 2 << 62

	// The letters of the instruction set, bit 0 being A.
	letterA = 1 << 0
	letterI = 1 << 8
	letterM = 1 << 12
	letterS = 1 << 18
	letterU = 1 << 20

	misa = ownWidth | letterA | letterI | letterM | letterS | letterU
)

// value returns what CSR n reads as; false, if it does not exist.
func value(c api.Csrs, n int, e api.Env) (uint64, bool) {
	switch n {
	case api.CsrMstatus:
		return c.Status | api.StXL, true
	case api.CsrSstatus:
		return c.Status&sstatusBits | userWidth, true
	case api.CsrMisa:
		return misa, true
	case api.CsrSie:
		return c.Ie & c.Ideleg, true
	case api.CsrMip:
		return Pending(c, e), true
	case api.CsrSip:
		return Pending(c, e) & c.Ideleg, true
	case api.CsrMcycle, api.CsrCycle:
		return Cycle(c, e), true
	case api.CsrTime:
		return e.Time, true
	case api.CsrHpm3, api.CsrHpm3 + 1, api.CsrHpm3 + 2, api.CsrHpm3 + 3:
		return events(c, n-api.CsrHpm3, e), true
	case api.CsrUhpm3, api.CsrUhpm3 + 1, api.CsrUhpm3 + 2, api.CsrUhpm3 + 3:
		return events(c, n-api.CsrUhpm3, e), true
	case api.CsrMvendor, api.CsrMarch, api.CsrMimp, api.CsrMhart, api.CsrMconfig:
		return 0, true
	}
	return held(c, n)
}

// held is value for the CSRs that read as what c holds of them.
func held(c api.Csrs, n int) (uint64, bool) {
	switch n {
	case api.CsrMedeleg:
		return c.Edeleg, true
	case api.CsrMideleg:
		return c.Ideleg, true
	case api.CsrMie:
		return c.Ie, true
	case api.CsrMtvec:
		return c.Tvec, true
	case api.CsrStvec:
		return c.Stvec, true
	case api.CsrMcounteren:
		return c.Counteren, true
	case api.CsrScounteren:
		return c.Scounteren, true
	case api.CsrInhibit:
		return c.Inhibit, true
	case api.CsrMscratch:
		return c.Scratch, true
	case api.CsrSscratch:
		return c.Sscratch, true
	case api.CsrMtval:
		return c.Tval, true
	case api.CsrStval:
		return c.Stval, true
	case api.CsrMepc:
		return c.Epc, true
	case api.CsrSepc:
		return c.Sepc, true
	case api.CsrMcause:
		return c.Cause, true
	case api.CsrScause:
		return c.Scause, true
	case api.CsrSatp:
		return c.Satp, true
	case api.CsrMinstret, api.CsrInstret:
		return c.Instret, true
	case api.CsrEvent3, api.CsrEvent3 + 1, api.CsrEvent3 + 2, api.CsrEvent3 + 3:
		return c.Event[n-api.CsrEvent3], true
	}
	return 0, false
}
