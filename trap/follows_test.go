package trap

import (
	"testing"

	"tappet/api"
)

// back returns from the trap that led to where h is.
func back(h api.Hart) api.Hart {
	if h.Priv == api.Super {
		return Sret(h)
	}
	return Mret(h)
}

// enable is the interrupt enable bit of the privilege that handles the trap.
func enable(handler api.Hart) uint64 {
	if handler.Priv == api.Super {
		return api.StSIE
	}
	return api.StMIE
}

func TestBackFromATrap(t *testing.T) {
	for _, priv := range privs {
		for _, status := range statuses() {
			for _, deleg := range []uint64{0, all} {
				for _, cause := range []uint64{api.CauseIllegal, api.CauseInt | api.IntSS} {
					h := full(priv)
					h.C.Status, h.C.Edeleg, h.C.Ideleg = status, deleg, deleg
					in := Enter(h, cause, 3)
					out := back(in)
					if out.Priv != h.Priv || (out.C.Status^h.C.Status)&enable(in) != 0 || out.PC != h.PC&^3 || out.X != h.X {
						t.Fatalf("What follows: a trap with the cause %#x and the return from it:\n%+v becomes\n%+v", cause, h, out)
					}
				}
			}
		}
	}
}

// A trap to Machine within one to Super: each return undoes its own.
func TestBackFromATrapWithinATrap(t *testing.T) {
	for _, priv := range []int{api.User, api.Super} {
		for _, status := range statuses() {
			h := full(priv)
			h.C.Status, h.C.Edeleg = status, 1<<api.CauseBreak
			outer := Enter(h, api.CauseBreak, 1)
			inner := Enter(outer, api.CauseIllegal, 2)
			if outer.Priv != api.Super || inner.Priv != api.Machine {
				t.Fatalf("P8.1: a trap within a trap: at the privileges %d and %d", outer.Priv, inner.Priv)
			}
			out := Sret(Mret(inner))
			if out.Priv != h.Priv || (out.C.Status^h.C.Status)&(api.StSIE|api.StMIE) != 0 || out.PC != h.PC&^3 {
				t.Fatalf("What follows: a trap within a trap, and both returns:\n%+v becomes\n%+v", h, out)
			}
		}
	}
}

// Behind the selected interrupt's entry, no more interrupts of that handler are taken.
func TestWhatIsTakenShutsOut(t *testing.T) {
	for pending := range 64 {
		for deleg := range 64 {
			for _, priv := range privs {
				h := api.Hart{Priv: priv, C: api.Csrs{Ie: all, Ip: subset(pending), Ideleg: subset(deleg), Status: api.StSIE | api.StMIE}}
				cause, is := Select(h, api.Env{})
				if !is {
					continue
				}
				g := Enter(h, cause, 0)
				if toSuper := subset(deleg)>>(cause%64)%2 == 1; toSuper != (g.Priv == api.Super) {
					t.Fatalf("W4: the interrupt %#x is taken at %d, Ideleg being %#x", cause, g.Priv, h.C.Ideleg)
				}
				if next, more := Select(g, api.Env{}); more {
					t.Fatalf("P8.3: behind %#x, %#x is taken at once", cause, next)
				}
			}
		}
	}
}

// Calls know only what they are given.
func TestCallsKeepNothing(t *testing.T) {
	h, e := full(api.User), api.Env{Lines: 0x888}
	first := Enter(h, api.CauseBreak, 1)
	Enter(ones(api.Super), all, all)
	Mret(first)
	Sret(first)
	Select(ones(api.Machine), e)
	if Enter(h, api.CauseBreak, 1) != first || h != full(api.User) {
		t.Fatal("R2: a call hangs on an earlier one")
	}
}
