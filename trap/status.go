package trap

import "tappet/api"

// mppAt is the lowest bit of MPP.
const mppAt = 11

// noPriv is what MPP can hold although it is no privilege.
const noPriv = 2

// mpp returns the privilege that MPP names.
func mpp(status uint64) int {
	if p := int(status & api.StMPP >> mppAt); p != noPriv {
		return p
	}
	return api.Machine
}

// withMpp returns status, MPP being the lowest two bits of priv.
func withMpp(status uint64, priv int) uint64 {
	return status&^api.StMPP | uint64(priv)<<mppAt&api.StMPP
}

// put returns status, the bits of which being set or cleared.
func put(status, which uint64, on bool) uint64 {
	if on {
		return status | which
	}
	return status &^ which
}

// move returns status, the bit to being what the bit from is.
func move(status, to, from uint64) uint64 { return put(status, to, status&from != 0) }
