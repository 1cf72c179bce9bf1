package csr

import "tappet/api"

// The number of a CSR says in its bits 8 and 9 who may access it, and in its bits 10 and 11 whether it can be written.
const (
	privShift  = 8
	privMask   = 3
	writeShift = 10
	writeMask  = 3
	writeNever = 3
)

// The CSRs that Counteren and Scounteren permit, bit by bit.
const (
	firstCounter = api.CsrCycle
	lastCounter  = api.CsrUhpm3 + 3
)

// permitted reports whether CSR n, if it exists, can be read at priv.
func permitted(c api.Csrs, n, priv int) bool {
	switch priv {
	case api.User, api.Super, api.Machine:
		return priv >= n>>privShift&privMask && untrapped(c, n, priv) && opened(c, n, priv)
	}
	return false
}

// untrapped is false of satp while it is kept from Super.
func untrapped(c api.Csrs, n, priv int) bool {
	return n != api.CsrSatp || priv != api.Super || c.Status&api.StTVM == 0
}

// opened is false of a counter that a higher privilege keeps from priv.
func opened(c api.Csrs, n, priv int) bool {
	if n < firstCounter || n > lastCounter {
		return true
	}
	open := uint64(1) << (n - firstCounter)
	switch priv {
	case api.Super:
		return c.Counteren&open != 0
	case api.User:
		return c.Counteren&c.Scounteren&open != 0
	}
	return true
}

func readOnly(n int) bool { return n>>writeShift&writeMask == writeNever }
