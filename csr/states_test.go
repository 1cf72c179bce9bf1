package csr

import (
	"math"

	"tappet/api"
)

var privs = [...]int{api.User, api.Super, api.Machine}

// noPrivs are no privileges, some of which would be one if bits of them were lost.
func noPrivs() []int {
	l := []int{2, 4, 5, 6, 7, 8, 16, 256, -1, -2, -3, -4, math.MinInt, math.MinInt + 1, math.MinInt + 3, math.MaxInt, math.MaxInt - 1, math.MinInt32, math.MaxInt32}
	for shift := 2; shift < 63; shift++ {
		for _, p := range privs {
			l = append(l, p+1<<shift, p-1<<shift)
		}
	}
	return l
}

// noFuns are no accesses, some of which would be one if bits of them were lost.
func noFuns() []int {
	l := []int{0, 4, 5, 6, 7, 8, 9, -1, -2, -3, -4, math.MinInt, math.MaxInt, math.MinInt32, math.MaxInt32}
	for shift := 2; shift < 63; shift++ {
		for fun := 1; fun <= 3; fun++ {
			l = append(l, fun+1<<shift, fun-1<<shift)
		}
	}
	return l
}

// noCsrs are numbers that are no CSR: all others of those that an instruction can name, those around them, and some far away.
func noCsrs() []int {
	known := map[int]bool{}
	for _, r := range rows() {
		known[r.n] = true
	}
	var l []int
	for n := -0x1100; n < 0x3000; n++ {
		if !known[n] {
			l = append(l, n)
		}
	}
	for n := range known {
		for shift := 14; shift < 63; shift++ {
			l = append(l, n+1<<shift, n-1<<shift)
		}
		l = append(l, n+math.MinInt)
	}
	return append(l, math.MinInt, math.MinInt+1, math.MaxInt, math.MaxInt-1, math.MinInt32, math.MaxInt32, math.MaxUint32)
}

// words are written: no bit, every bit, mixtures, each bit alone, and each missing alone.
func words() []uint64 {
	l := []uint64{0, all, 0x5555555555555555, 0xaaaaaaaaaaaaaaaa, 0x0123456789abcdef, 0xfedcba9876543210, 0x8000000000141101, 0x7e19aa, 0x222, 0xaaa, 0x888}
	for i := range 64 {
		l = append(l, 1<<i, all-1<<i)
	}
	return l
}

// full is a state whose fields are all different, each with bits that no write stores, and some that all of them do.
func full() api.Csrs {
	const step = 0x9e3779b97f4a7c15
	w := uint64(0)
	next := func() uint64 {
		w += step
		return w ^ w>>29
	}
	c := api.Csrs{
		Status: next(), Edeleg: next(), Ideleg: next(), Ie: next(), Ip: next(), Tvec: next(), Counteren: next(), Scratch: next(), Epc: next(),
		Cause: next(), Tval: next(), Stvec: next(), Scounteren: next(), Sscratch: next(), Sepc: next(), Scause: next(), Stval: next(), Satp: next(),
		Inhibit: next(), Instret: next(), Cycle: next(), At: next(),
	}
	for k := range 4 {
		c.Event[k], c.Hpm[k] = next(), next()
	}
	return c
}

// kept is one that writes can leave behind, whose fields are all different.
func kept() api.Csrs {
	return api.Csrs{
		Status: 0x0619aa &^ api.StMPP, Edeleg: 0xb109, Ideleg: 0x202, Ie: 0x8a2, Ip: 0x220, Tvec: 0x80000101, Counteren: 0x55, Scratch: 0x1234567890abcdef, Epc: 0x80000404,
		Cause: api.CauseInt | 7, Tval: 0xdeadbeef, Stvec: 0xffffffc000000001, Scounteren: 0x36, Sscratch: 0xfedcba9876543210, Sepc: 0x40000008, Scause: 13, Stval: 0x3fffffffff, Satp: 8<<60 | 0x1234<<44 | 0x80123,
		Inhibit: 0x2c, Instret: 1<<40 + 5, Cycle: 77777, At: 3333, Event: [4]uint64{1, 5, 0, 3}, Hpm: [4]uint64{9, all - 8, 1 << 32, 40},
	}
}

// ones is a state of which every bit is set.
func ones() api.Csrs {
	return api.Csrs{
		Status: all, Edeleg: all, Ideleg: all, Ie: all, Ip: all, Tvec: all, Counteren: all, Scratch: all, Epc: all, Cause: all, Tval: all,
		Stvec: all, Scounteren: all, Sscratch: all, Sepc: all, Scause: all, Stval: all, Satp: all, Inhibit: all, Instret: all, Cycle: all, At: all,
		Event: [4]uint64{all, all, all, all}, Hpm: [4]uint64{all, all, all, all},
	}
}

// states hold every bit clear, every bit set, and mixtures; of what selects among others (Ideleg, Inhibit, MPP) each by itself as well.
func states() []api.Csrs {
	l := []api.Csrs{{}, full(), kept(), ones()}
	for _, ideleg := range []uint64{0, 2, 0x20, 0x200, 0x222, all, 0xddd} {
		c := full()
		c.Ideleg = ideleg
		l = append(l, c)
	}
	for _, inhibit := range []uint64{0, 1, 2, 4, 0x7d, 0x7c} {
		c := full()
		c.Inhibit = inhibit
		l = append(l, c)
	}
	for mpp := range uint64(4) {
		c := full()
		c.Status = c.Status&^api.StMPP | mpp<<11
		l = append(l, c)
	}
	return l
}

// envs are outer worlds, one of them in a cycle that lies ahead of each state's At, and one behind.
func envs() []api.Env {
	return []api.Env{
		{},
		{Cycle: 5, Time: 6, Lines: 0x880, Hpm: [4]uint64{1, 2, 3, 4}},
		{Cycle: all, Time: all, Lines: all, Hpm: [4]uint64{all, all - 1, all - 2, all - 3}, Int: true, Dev: all, DevErr: true},
		{Cycle: 1 << 63, Time: 0x123456789, Lines: 1 << api.IntSE, Hpm: [4]uint64{1 << 63, 1 << 32, 7, 0}, Dev: 9},
		{Cycle: 4000, Time: 17, Lines: all &^ (1 << api.IntSE), Hpm: [4]uint64{10, 20, 30, 40}},
	}
}
