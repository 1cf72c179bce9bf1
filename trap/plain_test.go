package trap

import (
	"math"

	"tappet/api"
)

const all = math.MaxUint64

// bit reports whether v has it.
func bit(v uint64, i int) bool { return v>>i%2 == 1 }

// fields is Status taken apart, so that what the chapter says of a bit can be written as it is said. rest: the bits that no trap looks at.
type fields struct {
	sie, mie, spie, mpie, spp, mprv bool
	mpp                             int
	rest                            uint64
}

func apart(status uint64) fields {
	f := fields{
		sie: bit(status, 1), mie: bit(status, 3), spie: bit(status, 5), mpie: bit(status, 7), spp: bit(status, 8), mprv: bit(status, 17),
		mpp: int(status / 2048 % 4), rest: status,
	}
	for _, i := range []int{1, 3, 5, 7, 8, 11, 12, 17} {
		if bit(status, i) {
			f.rest -= 1 << i
		}
	}
	return f
}

func (f fields) together() uint64 {
	w := f.rest + uint64(f.mpp)*2048
	for _, b := range []struct {
		on   bool
		unit uint64
	}{{f.sie, 2}, {f.mie, 8}, {f.spie, 32}, {f.mpie, 128}, {f.spp, 256}, {f.mprv, 131072}} {
		if b.on {
			w += b.unit
		}
	}
	return w
}

// lowTwo is the number in the lowest two bits of p.
func lowTwo(p int) int { return (p%4 + 4) % 4 }

func plainDelegated(h api.Hart, cause uint64) bool {
	if h.Priv != 0 && h.Priv != 1 {
		return false
	}
	if cause >= 1<<63 {
		return bit(h.C.Ideleg, int(cause%64))
	}
	return bit(h.C.Edeleg, int(cause%64))
}

func plainHandler(vector, cause uint64) uint64 {
	pc := vector - vector%4
	if vector%2 == 1 && cause >= 1<<63 {
		pc += cause % 64 * 4
	}
	return pc
}

func plainEnter(h api.Hart, cause, tval uint64) api.Hart {
	f := apart(h.C.Status)
	told := cause%64 + cause/(1<<63)*(1<<63)
	g := h
	g.Res, g.ResAt = false, 0
	if plainDelegated(h, cause) {
		g.C.Scause, g.C.Sepc, g.C.Stval = told, h.PC-h.PC%4, tval
		f.spie, f.sie, f.spp = f.sie, false, h.Priv == 1
		g.Priv, g.PC = 1, plainHandler(h.C.Stvec, cause)
	} else {
		g.C.Cause, g.C.Epc, g.C.Tval = told, h.PC-h.PC%4, tval
		f.mpie, f.mie, f.mpp = f.mie, false, lowTwo(h.Priv)
		g.Priv, g.PC = 3, plainHandler(h.C.Tvec, cause)
	}
	g.C.Status = f.together()
	return g
}

func plainMpp(status uint64) int { return []int{0, 1, 3, 3}[apart(status).mpp] }

func plainMret(h api.Hart) api.Hart {
	f := apart(h.C.Status)
	g := h
	g.Res, g.ResAt = false, 0
	g.Priv, g.PC = plainMpp(h.C.Status), h.C.Epc
	f.mie, f.mpie, f.mpp = f.mpie, true, 0
	f.mprv = f.mprv && g.Priv == 3
	g.C.Status = f.together()
	return g
}

func plainSret(h api.Hart) api.Hart {
	f := apart(h.C.Status)
	g := h
	g.Res, g.ResAt = false, 0
	g.Priv, g.PC = 0, h.C.Sepc
	if f.spp {
		g.Priv = 1
	}
	f.sie, f.spie, f.spp, f.mprv = f.spie, true, false, false
	g.C.Status = f.together()
	return g
}

// plainCandidate reports whether the interrupt n is pending and enabled.
func plainCandidate(h api.Hart, e api.Env, n int) bool {
	byLine := (n == 3 || n == 7 || n == 9 || n == 11) && bit(e.Lines, n)
	return (bit(h.C.Ip, n) || byLine) && bit(h.C.Ie, n)
}

func plainCounts(h api.Hart, n int) bool {
	f := apart(h.C.Status)
	if bit(h.C.Ideleg, n) {
		return h.Priv == 0 || h.Priv == 1 && f.sie
	}
	return h.Priv != 3 || f.mie
}

func plainSelect(h api.Hart, e api.Env) (uint64, bool) {
	for _, toSuper := range []bool{false, true} {
		for _, n := range []int{11, 3, 7, 9, 1, 5} {
			if bit(h.C.Ideleg, n) == toSuper && plainCandidate(h, e, n) && plainCounts(h, n) {
				return 1<<63 + uint64(n), true
			}
		}
	}
	return 0, false
}

func plainWakes(h api.Hart, e api.Env) bool {
	for n := range 64 {
		if plainCandidate(h, e, n) {
			return true
		}
	}
	return false
}

func plainPriv(h api.Hart, kind int) int {
	if kind != 0 && apart(h.C.Status).mprv {
		return plainMpp(h.C.Status)
	}
	return h.Priv
}
