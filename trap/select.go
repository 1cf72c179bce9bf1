package trap

import (
	"tappet/api"
	"tappet/csr"
)

// Select returns the interrupt that is taken next, as a cause, and true; 0 and false, if there is none.
func Select(h api.Hart, e api.Env) (uint64, bool) {
	toMachine, toSuper := counting(h, candidates(h, e))
	taken := uint64(0)
order:
	for _, n := range [...]uint64{api.IntME, api.IntMS, api.IntMT, api.IntSE, api.IntSS, api.IntST} {
		switch bit := uint64(1) << n; {
		case toMachine&bit != 0:
			taken = api.CauseInt | n
			break order // what was found for Super stands behind whatever goes to Machine
		case toSuper&bit != 0 && taken == 0:
			taken = api.CauseInt | n
		}
	}
	return taken, taken != 0
}

// Wakes reports whether an interrupt is pending and enabled, be it one that would be taken or not.
func Wakes(h api.Hart, e api.Env) bool { return candidates(h, e) != 0 }

// candidates are the interrupts that are pending and enabled, bit by bit.
func candidates(h api.Hart, e api.Env) uint64 { return csr.Pending(h.C, e) & h.C.Ie }

// counting returns those of which that may be taken now, by who would handle them.
func counting(h api.Hart, which uint64) (toMachine, toSuper uint64) {
	if h.Priv != api.Machine || h.C.Status&api.StMIE != 0 {
		toMachine = which &^ h.C.Ideleg
	}
	if h.Priv == api.User || h.Priv == api.Super && h.C.Status&api.StSIE != 0 {
		toSuper = which & h.C.Ideleg
	}
	return toMachine, toSuper
}

// Priv returns the privilege of an access of that kind: data can be accessed as the privilege would that was interrupted, instructions not.
func Priv(h api.Hart, kind int) int {
	if kind == api.Fetch || h.C.Status&api.StMPRV == 0 {
		return h.Priv
	}
	return mpp(h.C.Status)
}
