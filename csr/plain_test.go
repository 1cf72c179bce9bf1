package csr

import (
	"math"

	"tappet/api"
)

const all = math.MaxUint64

// row is one of the chapter's table. Who may read it at least, and whether it can be written, is written out, not taken from the bits of its number.
type row struct {
	name     string
	n        int
	least    int
	writable bool
	read     func(c api.Csrs, e api.Env) uint64
	write    func(c *api.Csrs, v uint64, e api.Env)
}

// set is the word with these bits.
func set(list ...int) uint64 {
	w := uint64(0)
	for _, bit := range list {
		w += 1 << bit
	}
	return w
}

// bit reports whether v has it.
func bit(v uint64, i int) bool { return v>>i%2 == 1 }

// mix takes the bits of v where which has one, and those of old elsewhere.
func mix(old, v, which uint64) uint64 {
	w := uint64(0)
	for i := range 64 {
		from := old
		if bit(which, i) {
			from = v
		}
		if bit(from, i) {
			w += 1 << i
		}
	}
	return w
}

func keep(v, which uint64) uint64 { return mix(0, v, which) }

// below are the bits under n.
func below(n int) uint64 {
	w := uint64(0)
	for i := range n {
		w += 1 << i
	}
	return w
}

func plainPending(c api.Csrs, e api.Env) uint64 {
	w := c.Ip
	for _, i := range []int{3, 7, 9, 11} {
		if bit(e.Lines, i) && !bit(w, i) {
			w += 1 << i
		}
	}
	return w
}

func plainCycle(c api.Csrs, e api.Env) uint64 {
	if bit(c.Inhibit, 0) {
		return c.Cycle
	}
	return c.Cycle + e.Cycle - c.At
}

// word is a row of a CSR that reads as a field, of which some bits are stored.
func word(name string, n, least int, of func(c *api.Csrs) *uint64, stored uint64) row {
	return row{name, n, least, true,
		func(c api.Csrs, _ api.Env) uint64 { return *of(&c) },
		func(c *api.Csrs, v uint64, _ api.Env) { *of(c) = keep(v, stored) },
	}
}

// shown is a row of a CSR that is not writable.
func shown(name string, n, least int, read func(c api.Csrs, e api.Env) uint64) row {
	return row{name, n, least, false, read, func(*api.Csrs, uint64, api.Env) {}}
}

func plainWords() []row {
	return []row{
		word("medeleg", 0x302, 3, func(c *api.Csrs) *uint64 { return &c.Edeleg }, set(0, 1, 2, 3, 4, 5, 6, 7, 8, 9, 12, 13, 15)),
		word("mideleg", 0x303, 3, func(c *api.Csrs) *uint64 { return &c.Ideleg }, set(1, 5, 9)),
		word("mie", 0x304, 3, func(c *api.Csrs) *uint64 { return &c.Ie }, set(1, 3, 5, 7, 9, 11)),
		word("mtvec", 0x305, 3, func(c *api.Csrs) *uint64 { return &c.Tvec }, all-2),
		word("stvec", 0x105, 1, func(c *api.Csrs) *uint64 { return &c.Stvec }, all-2),
		word("mcounteren", 0x306, 3, func(c *api.Csrs) *uint64 { return &c.Counteren }, below(7)),
		word("scounteren", 0x106, 1, func(c *api.Csrs) *uint64 { return &c.Scounteren }, below(7)),
		word("mscratch", 0x340, 3, func(c *api.Csrs) *uint64 { return &c.Scratch }, all),
		word("sscratch", 0x140, 1, func(c *api.Csrs) *uint64 { return &c.Sscratch }, all),
		word("mepc", 0x341, 3, func(c *api.Csrs) *uint64 { return &c.Epc }, all-3),
		word("sepc", 0x141, 1, func(c *api.Csrs) *uint64 { return &c.Sepc }, all-3),
		word("mcause", 0x342, 3, func(c *api.Csrs) *uint64 { return &c.Cause }, 1<<63+below(6)),
		word("scause", 0x142, 1, func(c *api.Csrs) *uint64 { return &c.Scause }, 1<<63+below(6)),
		word("mtval", 0x343, 3, func(c *api.Csrs) *uint64 { return &c.Tval }, all),
		word("stval", 0x143, 1, func(c *api.Csrs) *uint64 { return &c.Stval }, all),
		word("minstret", 0xb02, 3, func(c *api.Csrs) *uint64 { return &c.Instret }, all),
	}
}

func plainStatus() []row {
	views := set(1, 5, 8, 18, 19)
	return []row{
		{"mstatus", 0x300, 3, true,
			func(c api.Csrs, _ api.Env) uint64 { return mix(c.Status, all, set(33, 35)) },
			func(c *api.Csrs, v uint64, _ api.Env) {
				old := c.Status
				c.Status = keep(v, set(1, 3, 5, 7, 8, 11, 12, 17, 18, 19, 20, 21, 22))
				if !bit(v, 11) && bit(v, 12) {
					c.Status = mix(c.Status, old, set(11, 12))
				}
			}},
		{"sstatus", 0x100, 1, true,
			func(c api.Csrs, _ api.Env) uint64 { return keep(c.Status, views) + set(33) },
			func(c *api.Csrs, v uint64, _ api.Env) { c.Status = mix(c.Status, v, views) }},
		{"misa", 0x301, 3, true,
			func(api.Csrs, api.Env) uint64 { return set(63, 0, 8, 12, 18, 20) },
			func(*api.Csrs, uint64, api.Env) {}},
		{"sie", 0x104, 1, true,
			func(c api.Csrs, _ api.Env) uint64 { return keep(c.Ie, c.Ideleg) },
			func(c *api.Csrs, v uint64, _ api.Env) { c.Ie = mix(c.Ie, v, c.Ideleg) }},
		{"mip", 0x344, 3, true,
			plainPending,
			func(c *api.Csrs, v uint64, _ api.Env) { c.Ip = keep(v, set(1, 5, 9)) }},
		{"sip", 0x144, 1, true,
			func(c api.Csrs, e api.Env) uint64 { return keep(plainPending(c, e), c.Ideleg) },
			func(c *api.Csrs, v uint64, _ api.Env) {
				if bit(c.Ideleg, 1) {
					c.Ip = mix(c.Ip, v, set(1))
				}
			}},
		{"satp", 0x180, 1, true,
			func(c api.Csrs, _ api.Env) uint64 { return c.Satp },
			func(c *api.Csrs, v uint64, _ api.Env) {
				if top := v / (1 << 60); top == 0 || top == 8 {
					c.Satp = v
				}
			}},
	}
}

func plainCounters() []row {
	l := []row{
		{"mcountinhibit", 0x320, 3, true,
			func(c api.Csrs, _ api.Env) uint64 { return c.Inhibit },
			func(c *api.Csrs, v uint64, e api.Env) {
				c.Cycle = plainCycle(*c, e)
				c.At = e.Cycle
				c.Inhibit = keep(v, set(0, 2, 3, 4, 5, 6))
			}},
		{"mcycle", 0xb00, 3, true, plainCycle, func(c *api.Csrs, v uint64, e api.Env) { c.Cycle, c.At = v, e.Cycle }},
		shown("cycle", 0xc00, 0, plainCycle),
		shown("time", 0xc01, 0, func(_ api.Csrs, e api.Env) uint64 { return e.Time }),
		shown("instret", 0xc02, 0, func(c api.Csrs, _ api.Env) uint64 { return c.Instret }),
	}
	for k := range 4 {
		events := func(c api.Csrs, e api.Env) uint64 { return c.Hpm[k] + e.Hpm[k] }
		l = append(l,
			row{"mhpmevent", 0x323 + k, 3, true,
				func(c api.Csrs, _ api.Env) uint64 { return c.Event[k] },
				func(c *api.Csrs, v uint64, _ api.Env) {
					c.Event[k] = v % 8
					if v%8 == 6 || v%8 == 7 {
						c.Event[k] = 0
					}
				}},
			row{"mhpmcounter", 0xb03 + k, 3, true, events, func(c *api.Csrs, v uint64, e api.Env) { c.Hpm[k] = v - e.Hpm[k] }},
			shown("hpmcounter", 0xc03+k, 0, events))
	}
	for n := 0xf11; n <= 0xf15; n++ {
		l = append(l, shown("a number of the machine", n, 3, func(api.Csrs, api.Env) uint64 { return 0 }))
	}
	return l
}

// rows are the chapter's table.
func rows() []row {
	return append(append(plainWords(), plainStatus()...), plainCounters()...)
}

// byNumber returns the row of CSR n; false, if it does not exist.
func byNumber(n int) (row, bool) {
	for _, r := range rows() {
		if r.n == n {
			return r, true
		}
	}
	return row{}, false
}

// readable is what the chapter says of r, which exists.
func readable(c api.Csrs, r row, priv int) bool {
	switch {
	case priv != 0 && priv != 1 && priv != 3, priv < r.least:
		return false
	case r.n == 0x180 && priv == 1:
		return !bit(c.Status, 20)
	case r.n >= 0xc00 && r.n <= 0xc06 && priv == 1:
		return bit(c.Counteren, r.n-0xc00)
	case r.n >= 0xc00 && r.n <= 0xc06 && priv == 0:
		return bit(c.Counteren, r.n-0xc00) && bit(c.Scounteren, r.n-0xc00)
	}
	return true
}
