package trap

import (
	"math"

	"tappet/api"
)

var privs = [...]int{api.User, api.Super, api.Machine}

// strange are numbers that are none of known, some of which would be if bits of them were lost.
func strange(known []int, others ...int) []int {
	l := append([]int{-1, -2, -3, -4, -5, -8, math.MinInt, math.MinInt + 1, math.MinInt + 2, math.MinInt + 3, math.MaxInt, math.MaxInt - 1, math.MaxInt - 2, math.MinInt32, math.MaxInt32}, others...)
	for shift := 3; shift < 63; shift++ {
		for _, n := range known {
			l = append(l, n+1<<shift, n-1<<shift)
		}
	}
	return l
}

// noPrivs are no privileges.
func noPrivs() []int { return strange(privs[:], 2, 4, 5, 6, 7) }

// noKinds are no kinds of accesses.
func noKinds() []int { return strange([]int{api.Fetch, api.Load, api.Store}, 3, 4, 5, 6, 7) }

// full is a hart whose fields are all different, each with many bits.
func full(priv int) api.Hart {
	const step = 0x9e3779b97f4a7c15
	w := uint64(0)
	next := func() uint64 {
		w += step
		return w ^ w>>29
	}
	h := api.Hart{PC: next(), Priv: priv, Res: true, ResAt: next() &^ 7}
	for i := range h.X {
		h.X[i] = next()
	}
	h.C = api.Csrs{
		Status: next(), Edeleg: next(), Ideleg: next(), Ie: next(), Ip: next(), Tvec: next(), Counteren: next(), Scratch: next(), Epc: next(),
		Cause: next(), Tval: next(), Stvec: next(), Scounteren: next(), Sscratch: next(), Sepc: next(), Scause: next(), Stval: next(), Satp: next(),
		Inhibit: next(), Instret: next(), Cycle: next(), At: next(),
	}
	for k := range 4 {
		h.C.Event[k], h.C.Hpm[k] = next(), next()
	}
	return h
}

// ones is a hart of which every bit is set.
func ones(priv int) api.Hart {
	h := api.Hart{PC: all, Priv: priv, Res: true, ResAt: all - 7}
	for i := range h.X {
		h.X[i] = all
	}
	h.C = api.Csrs{
		Status: all, Edeleg: all, Ideleg: all, Ie: all, Ip: all, Tvec: all, Counteren: all, Scratch: all, Epc: all, Cause: all, Tval: all,
		Stvec: all, Scounteren: all, Sscratch: all, Sepc: all, Scause: all, Stval: all, Satp: all, Inhibit: all, Instret: all, Cycle: all, At: all,
		Event: [4]uint64{all, all, all, all}, Hpm: [4]uint64{all, all, all, all},
	}
	return h
}

// harts are some at that privilege, holding a reservation and not.
func harts(priv int) []api.Hart {
	free := full(priv)
	free.Res, free.ResAt = false, 0
	// No call leaves such a state behind; it is to be cleared all the same.
	stale := full(priv)
	stale.Res = false
	return []api.Hart{{Priv: priv}, full(priv), ones(priv), free, stale}
}

// statuses hold each mixture of the fields that traps look at, once with all other bits clear, once with all of them set, once with some.
func statuses() []uint64 {
	var l []uint64
	others := apart(all).rest
	for i := range 1 << 8 {
		f := fields{sie: bit(uint64(i), 0), mie: bit(uint64(i), 1), spie: bit(uint64(i), 2), mpie: bit(uint64(i), 3), spp: bit(uint64(i), 4), mprv: bit(uint64(i), 5), mpp: i >> 6}
		for _, rest := range []uint64{0, others, others & 0x5a5a5a5a5a7c5a5a} {
			f.rest = rest
			l = append(l, f.together())
		}
	}
	return l
}

// places are addresses with each of their lowest two bits: low, high, and around what of them has a sign.
func places() []uint64 {
	var l []uint64
	for _, at := range []uint64{0, 4, 0x100, 0x1000, 0x80000000, 1<<32 - 4, 1<<38 - 4, 1<<63 - 4, 1 << 63, all - 0xff, all - 7, all - 3} {
		for low := range uint64(4) {
			l = append(l, at+low)
		}
	}
	return l
}

// causes are all numbers, as exceptions and as interrupts.
func causes() []uint64 {
	var l []uint64
	for n := range uint64(64) {
		l = append(l, n, api.CauseInt|n)
	}
	return l
}
